import PyProof.Rows.All
import Wide.All
import OpenK.AllK
import Wide.FinOn
import Lean
import PyProof.EqAt
import PyProof.EqKinds
import PyProof.TupleCall
import KE.KPairComp
import PyProof.SumWalkG
import PyProof.WalkInts
import PyProof.Rows.SortStr
import PyProof.Rows.SortWalk
import PyProof.NeKinds
import KE.KIntText
import PyProof.Rows.FStr
import PyProof.Rows.StrNews2
import PyProof.CallStr
import PyProof.StrLawsChain
import PySem.Challenge.RW_latestturn_k03_kinds_and_refusals
set_option Elab.async false
set_option linter.all false
set_option maxRecDepth 100000
set_option maxHeartbeats 4000000
noncomputable section
open PySem.W (mg_of nsIn keepIn fnOf codeIn findIn kitOne subIn hasDictIn clsIn takerIn instObj Looks emptyDict plainGet looks_findIn InstAt)
set_option maxHeartbeats 4000000
namespace L2
open PySem PySem.Spec PyProof.Rows
abbrev Key:=Sum Int Str
def keyIs:Key->Value->Bool
 |.inl k,v=>Value.isInt k v
 |.inr x,v=>Value.isStrOf x v
def keyH (w:World):Key->Int
 |.inl k=>hashInt k
 |.inr x=>hashStr w x
theorem yN:∀ {k:Key} {v:Value},keyIs k v=true->(∃i t,k=Sum.inl i/\v=Value.int i t)∨(∃x t,k=Sum.inr x/\v=Value.str x t)
 |.inl i,v,h=>by
  obtain⟨t,e⟩:=Value.isInt_shape (k:=i) (v:=v) h
  exact .inl ⟨i,t,rfl,e⟩
 |.inr x,v,h=>by
  obtain⟨t,e⟩:=Value.isStrOf_shape (x:=x) (v:=v) h
  exact .inr ⟨x,t,rfl,e⟩
theorem Jk (i:Int)(t:Tok):keyIs (.inl i) (.int i t)=true:=by simp[keyIs,Value.isInt]
theorem Kb (x:Str)(t:Tok):keyIs (.inr x) (.str x t)=true:=by simp[keyIs,Value.isStrOf]
theorem YR (a b:Int):decide ((Sum.inl a:Key)=Sum.inl b)=(a==b):=by
 by_cases e:a=b
 ·subst e;simp
 ·have h:¬(Sum.inl a:Key)=Sum.inl b:=λq=>e (Sum.inl.inj q)
  rw[decide_eq_false h]
  exact (beq_eq_false_iff_ne.mpr e).symm
theorem Y3 (a b:Str):decide ((Sum.inr a:Key)=Sum.inr b)=decide (a=b):=by
 by_cases e:a=b
 ·subst e;simp
 ·have h:¬(Sum.inr a:Key)=Sum.inr b:=λq=>e (Sum.inr.inj q)
  rw[decide_eq_false h,decide_eq_false e]
theorem Kg (a:Int)(b:Str):decide ((Sum.inl a:Key)=Sum.inr b)=false:=decide_eq_false (λq=>nomatch q)
theorem Jj (a:Str)(b:Int):decide ((Sum.inr a:Key)=Sum.inl b)=false:=decide_eq_false (λq=>nomatch q)
def zU (prog:Program)(w:World):PySem.KeyKind prog w Key where
 is:=keyIs
 hash:=keyH w
 inj:=λv a b ha hb=>by
  rcases yN ha with⟨i,t,rfl,rfl⟩ | ⟨x,t,rfl,rfl⟩
  ·rcases yN hb with⟨j,u,rfl,e⟩ | ⟨y,u,rfl,e⟩
   ·injection e with e1 _;rw[e1]
   ·exact nomatch e
  ·rcases yN hb with⟨j,u,rfl,e⟩ | ⟨y,u,rfl,e⟩
   ·exact nomatch e
   ·injection e with e1 _;rw[e1]
 byValue:=λk v h=>by
  rcases yN h with⟨i,t,rfl,rfl⟩ | ⟨x,t,rfl,rfl⟩<;>rfl
 pyHash:=λhv h=>by
  rcases yN hv with⟨i,t,rfl,rfl⟩ | ⟨x,t,rfl,rfl⟩
  ·exact wpAny_pyHash_int h
  ·exact wpAny_pyHash_str h
 eqBool:=λhu hv h=>by
  rcases yN hu with⟨i,t,rfl,rfl⟩ | ⟨x,t,rfl,rfl⟩
  ·rcases yN hv with⟨j,u,rfl,rfl⟩ | ⟨y,u,rfl,rfl⟩
   ·rw[YR] at h;exact wpAny_eqBool_int h
   ·rw[Kg] at h;exact SeqAt.EqAt.int_str i t y u _ _ _ _ h
  ·rcases yN hv with⟨j,u,rfl,rfl⟩ | ⟨y,u,rfl,rfl⟩
   ·rw[Jj] at h;exact SeqAt.EqAt.str_int x t j u _ _ _ _ h
   ·rw[Y3] at h;exact wpAny_eqBool_str h
 «strs»:=λk x t v h=>by
  rcases yN h with⟨i,u,rfl,e⟩ | ⟨y,u,rfl,e⟩
  ·exact nomatch e
  ·injection e with e1 _
   subst e1
   cases v<;>rfl
theorem W2 (prog:Program)(w:World)(i:Int)(t:Tok):(zU prog w).is (.inl i) (.int i t)=true:=Jk i t
theorem KJ (prog:Program)(w:World)(x:Str)(t:Tok):(zU prog w).is (.inr x) (.str x t)=true:=Kb x t
inductive V where
 |non | bl (b:Bool) | int (i:Int) | str (x:Str) | byt (b:Array UInt8) | flt (b:UInt64) | ref (a:Addr) | ty (n:String)
 deriving DecidableEq
def RelV:V->Value->Prop
 |.non,u=>u=Value.none
 |.bl b,u=>u=Value.bool b
 |.int i,u=>∃t,u=Value.int i t
 |.str x,u=>∃t,u=Value.str x t
 |.byt b,u=>∃t,u=Value.bytes b t
 |.flt b,u=>∃t,u=Value.float b t
 |.ref a,u=>u=Value.ref a
 |.ty n,u=>u=Value.type n
abbrev Vals:List V->List Value->Prop:=Paired RelV
theorem Vals.length {xs:List V}{us:List Value}(r:Vals xs us):xs.length=us.length:=Paired.length r
theorem Vals.get:∀ {xs:List V} {us:List Value} {i:Nat} {x:V},Vals xs us->xs[i]?=some x->∃u,us[i]?=some u/\RelV x u
 |_,_,_,_,.nil,e=>by simp at e
 |_,_,0,_,.cons r _,e=>by simp at e;subst e;exact⟨_,rfl,r⟩
 |_,_,i+1,x,.cons _ t,e=>by
  obtain⟨u,h1,h2⟩:=Vals.get (i:=i) (x:=x) t (by simpa using e)
  exact⟨u,by simpa using h1,h2⟩
theorem Vals.set {x:V}{u:Value}(r:RelV x u):∀ {xs:List V} {us:List Value} (i:Nat),Vals xs us->Vals (xs.set i x) (us.set i u)
 |_,_,_,.nil=>.nil
 |_,_,0,.cons _ t=>.cons r t
 |_,_,i+1,.cons q t=>.cons q (Vals.set r i t)
theorem Vals.append:∀ {xs ys:List V} {us ws:List Value},Vals xs us->Vals ys ws->Vals (xs++ys) (us++ws)
 |_,_,_,_,.nil,s=>s
 |_,_,_,_,.cons r t,s=>.cons r (Vals.append t s)
theorem Vals.take:∀ {xs:List V} {us:List Value} (n:Nat),Vals xs us->Vals (xs.take n) (us.take n)
 |_,_,0,_=>.nil
 |_,_,_+1,.nil=>.nil
 |_,_,n+1,.cons r t=>.cons r (Vals.take n t)
theorem Vals.drop:∀ {xs:List V} {us:List Value} (n:Nat),Vals xs us->Vals (xs.drop n) (us.drop n)
 |_,_,0,r=>r
 |_,_,_+1,.nil=>.nil
 |_,_,n+1,.cons _ t=>Vals.drop n t
def RelO:Option V->Option Value->Prop
 |some v,some u=>RelV v u
 |none,none=>True
 |_,_=>False
def KV {κ:Type}:List (κ×V)->List (κ×Value)->Prop:=Paired λ(p:κ×V) (q:κ×Value)=>p.1=q.1/\RelV p.2 q.2
def kV:Key->V
 |.inl i=>.int i
 |.inr x=>.str x
inductive HO where
  |lst (xs:List V)
  |tup (xs:List V)
  |dK (kvs:List (Key×V)) | dT (kvs:List (List Key×V))
  |set (S:Int->Bool) (n:Nat)
  |ins (C dx:Addr) (fs:List (Str×V))
  |own (x:Addr)
  |xd (fs:List (Str×V))
  |met (f x:Addr)
  |rng (lo hi:Int)
  |frz (o:Obj) (u:HO)
  |tbl (ps:Array Value)
  |ext (φ:Heap->Prop)
abbrev Hp:=Addr->Option HO
def upd (H:Hp)(a:Addr)(o:HO):Hp:=λb=>if b=a then some o else H b
theorem zm {H:Hp}{a:Addr}{o:HO}:upd H a o a=some o:=by unfold upd;rw[if_pos rfl]
theorem zf {H:Hp}{a b:Addr}{o:HO}(h:b≠a):upd H a o b=H b:=by unfold upd;rw[if_neg h]
theorem yS {H:Hp}{a:Addr}{o u:HO}:upd (upd H a o) a u=upd H a u:=by
 funext b;unfold upd;split<;>rfl
theorem JI {H:Hp}{a b:Addr}{o u:HO}(h:H a=some o)(h':H b=some u)(d:o≠u):a≠b:=by
 intro e;subst e;rw[h] at h';exact d (Option.some.inj h')
theorem zI {H:Hp}{a b:Addr}{o:HO}(h:H a=some o)(h':H b=none):a≠b:=by
 intro e;subst e;rw[h] at h';cases h'
section
variable (P:Program)(w:World)
def ObjOk (H:Hp)(h:Heap)(a:Addr):HO->Prop
 |.lst xs=>xs.length<=sizeLine/\∃(its:List Value) (n:Nat),Vals xs its/\h.get? a=some { cls:=.type "list",data:=.seq its.toArray n }
 |.tup xs=>xs.length<=sizeLine/\∃its:List Value,Vals xs its/\IsTup h a its.toArray
 |.dK kvs=>kvs.length<=sizeLine/\(a==sysModules)=false/\∃vs,KV kvs vs/\h.DictOf (zU P w) a vs
 |.dT kvs=>kvs.length<=sizeLine/\(a==sysModules)=false/\∃xs:List (List Key×Addr×Value),
   Paired (λ(p:List Key×V) (q:List Key×Addr×Value)=>p.1=q.1/\H q.2.1=some (.tup (p.1.map kV))/\RelV p.2 q.2.2) kvs xs /\
   ∃o es ep,h.get? a=some o/\o.ExactDict/\o.data=.dict es ep/\es.toList=xs.map (entryOfKey (tupleKind (zU P w)))/\(xs.map (·.1)).Nodup
 |.set S n=>h.SetOf (intKind P w) a S n
 |.ins C dx fs=>H dx=some (.own a)/\fs.length<=1000/\dx≠a/\h.get? a=some (instObj C dx) /\
   ∃mA,h.Ns1 dx mA/\(∀f,RelO (fs.lookup f) (mA f))/\PySem.Within mA (fs.map (·.1))
 |.own _=>∃o,h.get? a=some o
 |.xd fs=>∃mA,h.Ns1 a mA/\∀f,RelO (fs.lookup f) (mA f)
 |.rng lo hi=>∃t u v,h.get? a=some { cls:=.type "range",data:=.fields #[.int lo t,.int hi u,.int 1 v] }
 |.frz o u=>h.get? a=some o/\ObjOk H h a u
 |.tbl ps=>h.get? a=some { cls:=.none,data:=.fields ps }
 |.met f x=>h.get? a=some (PySem.W.methodObj (.ref f) (.ref x))
 |.ext φ=>φ h/\(∃o,h.get? a=some o)/\∀h1 h2:Heap,φ h1->(∀o,h1.get? a=some o->h2.get? a=some o)->φ h2
def HOk (H:Hp)(h:Heap):Prop:=∀a o,H a=some o->ObjOk P w H h a o
end
section
variable {P:Program}{w:World}{H H':Hp}{h h':Heap}{a:Addr}{o:HO}
theorem ObjOk.lt (x:ObjOk P w H h a o):a < h.objs.size:=by
 cases o with
 |lst xs=>obtain⟨_,_,_,_,e⟩:=x;exact Heap.lt_size e
 |tup xs=>obtain⟨_,_,_,p⟩:=x;exact p.lt
 |dK kvs=>obtain⟨_,_,_,_,o,_,_,e,_⟩:=x;exact Heap.lt_size e
 |dT kvs=>obtain⟨_,_,_,_,o,_,_,e,_⟩:=x;exact Heap.lt_size e
 |set S n=>obtain⟨o,_,_,_,e,_⟩:=x;exact Heap.lt_size e
 |ins C dx fs=>obtain⟨_,_,_,e,_⟩:=x;exact Heap.lt_size e
 |own y=>obtain⟨_,e⟩:=x;exact Heap.lt_size e
 |xd fs=>obtain⟨_,⟨_,_,_,e,_⟩,_⟩:=x;exact Heap.lt_size e
 |rng lo hi=>obtain⟨_,_,_,e⟩:=x;exact Heap.lt_size e
 |frz ob u=>obtain⟨e,_⟩:=x;exact Heap.lt_size e
 |tbl ps=>exact Heap.lt_size (show h.get? a=some _ from x)
 |met f y=>exact Heap.lt_size (show h.get? a=some _ from x)
 |ext φ=>obtain⟨_,⟨_,e⟩,_⟩:=x;exact Heap.lt_size e
theorem Paired.mapP {α β:Type}{F G:α->β->Prop}:∀ {l₁:List α} {l₂:List β},Paired F l₁ l₂->(∀a b,F a b->G a b)->Paired G l₁ l₂
 |_,_,.nil,_=>.nil
 |_,_,.cons r t,f=>.cons (f _ _ r) (Paired.mapP t f)
theorem ObjOk.stay (x:ObjOk P w H h a o)(k:∀b u,(b=a∨H b=some (.own a))->h.get? b=some u->h'.get? b=some u)
  (ho:∀b,H b=some (.own a)->H' b=some (.own a)) (ht:∀b xs,H b=some (.tup xs)->H' b=some (.tup xs)):ObjOk P w H' h' a o:=by
 induction o with
 |lst xs=>obtain⟨z,its,n,r,e⟩:=x;exact⟨z,its,n,r,k _ _ (.inl rfl) e⟩
 |tup xs=>obtain⟨z,its,r,ob,e,c⟩:=x;exact⟨z,its,r,ob,k _ _ (.inl rfl) e,c⟩
 |dK kvs=>obtain⟨z,y,vs,r,ob,es,ep,e,c⟩:=x;exact⟨z,y,vs,r,ob,es,ep,k _ _ (.inl rfl) e,c⟩
 |dT kvs=>
  obtain⟨z,y,xs,r,ob,es,ep,e,c⟩:=x
  exact⟨z,y,xs,Paired.mapP r λp q z=>⟨z.1,ht _ _ z.2.1,z.2.2⟩,ob,es,ep,k _ _ (.inl rfl) e,c⟩
 |set S n=>obtain⟨ob,es,ep,t,e,c⟩:=x;exact⟨ob,es,ep,t,k _ _ (.inl rfl) e,c⟩
 |ins C dx fs=>
  obtain⟨d,z,ne,e,mA,⟨od,es,ep,e2,c⟩,r⟩:=x
  exact⟨ho _ d,z,ne,k _ _ (.inl rfl) e,mA,⟨od,es,ep,k _ _ (.inr d) e2,c⟩,r⟩
 |own y=>obtain⟨ob,e⟩:=x;exact⟨ob,k _ _ (.inl rfl) e⟩
 |xd fs=>obtain⟨mA,⟨od,es,ep,e,c⟩,r⟩:=x;exact⟨mA,⟨od,es,ep,k _ _ (.inl rfl) e,c⟩,r⟩
 |rng lo hi=>obtain⟨t,u,v,e⟩:=x;exact⟨t,u,v,k _ _ (.inl rfl) e⟩
 |frz ob u ih=>obtain⟨e,q⟩:=x;exact⟨k _ _ (.inl rfl) e,ih q⟩
 |tbl ps=>
  have e:h.get? a=some { cls:=.none,data:=.fields ps }:=x
  show h'.get? a=some { cls:=.none,data:=.fields ps }
  exact k a _ (.inl rfl) e
 |met f y=>
  have e:h.get? a=some (PySem.W.methodObj (.ref f) (.ref y)):=x
  show h'.get? a=some (PySem.W.methodObj (.ref f) (.ref y))
  exact k a _ (.inl rfl) e
 |ext φ=>obtain⟨p,⟨o,e⟩,st⟩:=x;exact⟨st _ _ p λo q=>k _ _ (.inl rfl) q,⟨o,k _ _ (.inl rfl) e⟩,st⟩
theorem HOk.lt (x:HOk P w H h)(e:H a=some o):a < h.objs.size:=(x a o e).lt
theorem HOk.fresh (x:HOk P w H h)(e:h.objs.size<=a):H a=none:=by
 cases q:H a with
 |none=>rfl
 |some u=>exact absurd (Nat.lt_of_lt_of_le (x.lt q) e) (Nat.lt_irrefl _)
theorem HOk.kept (x:HOk P w H h)(k:∀b u,h.get? b=some u->h'.get? b=some u):HOk P w H h':=λa o e=>
 (x a o e).stay (λb u _ q=>k b u q) (λ_ q=>q) λ_ _ q=>q
theorem HOk.laid (x:HOk P w H h)(k:∀b u,h.get? b=some u->h'.get? b=some u)(hp:h.objs.size<=a)(new:ObjOk P w (upd H a o) h' a o):HOk P w (upd H a o) h':=λb u e=>by
 have hn:=x.fresh hp
 by_cases hb:b=a
 ·subst hb;rw[zm] at e;cases e;exact new
 ·rw[zf hb] at e
  exact (x b u e).stay (λc v _ q=>k c v q) (λc q=>by rw[zf (zI q hn)];exact q) λc xs q=>by rw[zf (zI q hn)];exact q
end
def Rd (H:Hp)(a:Addr)(u:HO):Prop:=H a=some u∨∃o,H a=some (.frz o u)
theorem Rd.ok {P:Program}{w:World}{H:Hp}{h:Heap}{a:Addr}{u:HO}(r:Rd H a u)(x:HOk P w H h):ObjOk P w H h a u:=by
 rcases r with r | ⟨o,r⟩
 ·exact x a u r
 ·obtain⟨_,q⟩:=x a _ r
  exact q
def Mut:Option HO->Prop
 |some (.lst _)=>True
 |some (.dK _)=>True
 |some (.dT _)=>True
 |some (.set _ _)=>True
 |some (.ins _ _ _)=>True
 |some (.ext _)=>True
 |_=>False
section
variable {P:Program}{w:World}{H:Hp}{h h':Heap}{x e:Addr}{o':HO}
theorem HOk.write (ok:HOk P w H h)(mu:Mut (H x))(he:e=x∨H e=some (.own x))(k:∀b u,b≠e->h.get? b=some u->h'.get? b=some u)(heo:∃u,h'.get? e=some u)
  (new:ObjOk P w (upd H x o') h' x o'):HOk P w (upd H x o') h':=λb u q=>by
 have nown:∀c y,H c=some (.own y)->c≠x:=λc y r z=>by subst z;rw[r] at mu;exact mu
 have ntup:∀c xs,H c=some (.tup xs)->c≠x:=λc xs r z=>by subst z;rw[r] at mu;exact mu
 by_cases hb:b=x
 ·subst hb;rw[zm] at q;cases q;exact new
 ·rw[zf hb] at q
  by_cases hbe:b=e
  ·have q':H b=some (.own x):=by
    rcases he with z | z
    ·exact absurd (hbe.trans z) hb
    ·rw[hbe];exact z
   rw[q] at q';cases q'
   obtain⟨v,hv⟩:=heo
   exact⟨v,by rw[hbe];exact hv⟩
  ·refine (ok b u q).stay (λc v hc r=>k c v ?_ r) (λc r=>by rw[zf (nown c b r)];exact r) λc xs r=>by rw[zf (ntup c xs r)];exact r
   rcases hc with rfl | hc
   ·exact hbe
   ·rintro rfl
    rcases he with z | z
    ·exact nown c b hc z
    ·rw[hc] at z;cases z;exact hb rfl
end
structure Un (fs ex:List Addr)(H H':Hp)(h h':Heap):Prop where
 keep:∀b o,h.get? b=some o->H b=none->b∉fs->b∉ex->h'.get? b=some o
 slot:∀b o,h.get? b=some o->H b=none->b∈fs->b∉ex->∃sl,h'.get? b=some { o with slots:=sl }
 free:∀b o,h.get? b=some o->H b=none->b∉ex->H' b=none
 there:∀b o,h.get? b=some o->b∉ex->∃o',h'.get? b=some o'
 tups:∀b xs,H b=some (.tup xs)->H' b=some (.tup xs)
 frzs:∀b o u,H b=some (.frz o u)->H' b=some (.frz o u)
 tbls:∀b ps,H b=some (.tbl ps)->∃more,H' b=some (.tbl (ps++more))
section
variable {fs fs' ex ex':List Addr}{H H1 H2:Hp}{h h1 h2 h':Heap}{a x e:Addr}{o:HO}
theorem Un.any (u:Un fs ex H H1 h h1){b:Addr}{ob:Obj}(q:h.get? b=some ob)(n:H b=none)(hx:b∉ex):∃sl,h1.get? b=some { ob with slots:=sl }:=by
 by_cases hb:b∈fs
 ·exact u.slot b ob q n hb hx
 ·exact⟨ob.slots,u.keep b ob q n hb hx⟩
theorem Un.kept (k:∀b u,h.get? b=some u->h'.get? b=some u):Un fs ex H H h h' :=
 ⟨λb ob q _ _ _=>k b ob q,λb ob q _ _ _=>⟨ob.slots,k b ob q⟩,λ_ _ _ n _=>n,λb ob q _=>⟨ob,k b ob q⟩,λ_ _ q=>q,λ_ _ _ q=>q,λ_ ps q=>⟨#[],by rw[q];simp⟩⟩
theorem Un.refl:Un fs ex H H h h:=Un.kept λ_ _ q=>q
theorem Un.laid (k:∀b u,h.get? b=some u->h'.get? b=some u)(hp:h.objs.size<=a)(hn:H a=none):Un fs ex H (upd H a o) h h' where
 keep:=λb u q _ _ _=>k b u q
 slot:=λb u q _ _ _=>⟨u.slots,k b u q⟩
 free:=λb u q n _=>by rw[zf (Nat.ne_of_lt (Nat.lt_of_lt_of_le (Heap.lt_size q) hp))];exact n
 there:=λb u q _=>⟨u,k b u q⟩
 tups:=λb xs q=>by rw[zf (zI q hn)];exact q
 frzs:=λb u xs q=>by rw[zf (zI q hn)];exact q
 tbls:=λb ps q=>⟨#[],by rw[zf (zI q hn),q];simp⟩
theorem Un.write (mu:Mut (H x))(he:e=x∨H e=some (.own x))(k:∀b u,b≠e->h.get? b=some u->h'.get? b=some u)(heo:∃u,h'.get? e=some u):Un fs ex H (upd H x o) h h':=by
 have hx:∀b,H b=none->b≠x:=λb n z=>by subst z;rw[n] at mu;exact mu
 have hb:∀b,H b=none->b≠e:=λb n z=>by
  subst z
  rcases he with r | r
  ·exact hx b n r
  ·rw[n] at r;cases r
 have hm:∀b u,H b=some u->¬Mut (some u)->b≠x:=λb u q nm z=>by subst z;rw[q] at mu;exact nm mu
 refine⟨λb u q n _ _=>k b u (hb b n) q,λb u q n _ _=>⟨u.slots,k b u (hb b n) q⟩,λb u q n _=>by rw[zf (hx b n)];exact n,λb u q _=>?_,
  λb xs q=>by rw[zf (hm b _ q λz=>z)];exact q,λb u xs q=>by rw[zf (hm b _ q λz=>z)];exact q,λb ps q=>⟨#[],by rw[zf (hm b _ q λz=>z),q];simp⟩⟩
 by_cases hbe:b=e
 ·subst hbe;exact heo
 ·exact⟨u,k b u hbe q⟩
end
def trk (h:Heap)(H:Hp):List Addr:=(List.range h.objs.size).filter λa=>(H a).isSome
def hidT (h:Heap)(H:Hp):Heap:=PySem.W.hideAll h (trk h H)
theorem VH (h:Heap)(H:Hp):(hidT h H).objs.size=h.objs.size:=PySem.W.hideAll_size _ _
theorem VS {h:Heap}{H:Hp}{b:Addr}{o:Obj}(e:h.get? b=some o)(n:H b=none):(hidT h H).get? b=some o :=
 PySem.W.hideAll_get _ e λhm=>by
  have q:(H b).isSome=true:=(List.mem_filter.mp hm).2
  rw[n] at q;simp at q
theorem Q4 {h:Heap}{H:Hp}{b:Addr}{o:Obj}(e:(hidT h H).get? b=some o):h.get? b=some o/\H b=none:=by
 have e':h.get? b=some o:=PySem.W.of_hideAll (trk h H) e
 refine⟨e',?_⟩
 cases q:H b with
 |none=>rfl
 |some x=>
  have hm:b∈trk h H:=List.mem_filter.mpr ⟨List.mem_range.mpr (Heap.lt_size e'),by simp[q]⟩
  have z:(hidT h H).get? b=none:=PySem.W.hideAll_none (trk h H) hm
  rw[z] at e;cases e
def J7 (g h:Heap)(L:Addr):List (Addr×Obj):=(List.range h.objs.size).filterMap λa=>if a=L∨(g.get? a).isSome=true then none else (h.get? a).map λo=>(a,o)
def rest (g h:Heap)(L d:Addr):List (Addr×Obj):=(J7 g h L).filter λp=>decide (p.1≠d)
structure Mod (K:PySem.W.Frag)(mg:Str->Option Value)(base:Heap):Prop where
 kin:K.In base
 glob:base.Ns mainGlobals mg
 blt:∃mb,base.Ns builtinsNs mb/\∀x:Str,x ≠ "__name__" -> mb x=bootBuiltins x
 nolimit:base.NoLimit
structure Cx where
 prog:Program
 w:World
 K:PySem.W.Frag
 mg:Str->Option Value
 base:Heap
 A:Around
 N:List Str
 s₀:Shared
 H₀:Hp
 env:Env
 outer:List Env
 stack:List Env
 ex:List Addr
 fn:Str->Bool
 calm:Bool
 pn:List (Addr×Obj)
 xe:Value->Shared->Prop
def frs (l:List Env):List Addr:=l.filterMap (·.frame)
abbrev Cx.fs (X:Cx):List Addr:=frs X.outer
def Vis (sc:Scope)(x:Str):Prop:=sc.names.lookup x=some .local∨sc.names.lookup x=some .cell∨sc.names.lookup x=some .free
def Loc (sc:Scope)(x:Str):Prop:=sc.names.lookup x=some .local∨sc.names.lookup x=some .cell
theorem locl {sc:Scope}{x:Str}(h:(match sc.names.lookup x with | some .local=>true | some .cell=>true | _=>false)=true):Loc sc x:=by
 unfold Loc
 split at h<;>simp_all
def Look (env:Env)(h:Heap)(m:Str->Option Value)(x:Str)(u:Value):Prop :=
 (env.kindOf x=some .local/\m x=some u)∨((env.kindOf x=some .cell∨env.kindOf x=some .free)/\∃c,env.cells.lookup x=some c/\h.IsCell c (some u))
structure Cx.Ok (X:Cx):Prop where
 mod:Mod X.K X.mg X.base
 kind:X.env.scope.kind=.function
 glob:X.env.globals=mainGlobals
 blt:X.env.builtins=builtinsNs
 above:X.s₀.heap.objs.size<=X.env.locals
 inj:∀x y c,X.env.cells.lookup x=some c->X.env.cells.lookup y=some c->x=y
 has:∀x,(X.env.kindOf x=some .cell∨X.env.kindOf x=some .free)->∃c,X.env.cells.lookup x=some c
 cab:∀x c,X.fn x=true->X.env.cells.lookup x=some c->X.s₀.heap.objs.size<=c
 hd:X.calm=true->X.A.handled=none
 frames:X.A.frames=some X.stack
 stk:X.stack=X.outer∨(X.stack=X.env::X.outer/\X.env.frame=some X.env.locals)
 exf:∀b∈X.ex,b≠X.env.locals/\∀x c,X.env.cells.lookup x=some c->c≠b
 bs:∀b o,X.base.get? b=some o->X.s₀.heap.get? b=some o/\X.H₀ b=none
 bsz:X.base.objs.size<=X.s₀.heap.objs.size
 noex:∀b o,X.base.get? b=some o->b∉X.ex
 exfs:∀b∈X.ex,b∉X.fs
 funs:X.s₀.heap.FunFrames X.base X.outer
 frf:∀b∈X.fs,X.H₀ b=none
structure Inv (X:Cx)(pins:List (Addr×Obj))(σ:List (Option V))(H:Hp)(s:Shared):Prop where
 ok:X.Ok
 os:s.os=X.s₀.os
 bare:AllBare s.gens
 base:Un X.fs X.ex X.H₀ H X.s₀.heap s.heap
 loc:∃m,s.heap.Ns X.env.locals m/\∀(i:Nat) (x:Str) (v:V),X.N[i]?=some x->σ[i]?=some (some v)->Vis X.env.scope x->∃u,RelV v u/\Look X.env s.heap m x u
 cell:∀x c,X.env.cells.lookup x=some c->∃v,s.heap.IsCell c v
 free:H X.env.locals=none
 freeC:∀x c,X.env.cells.lookup x=some c->H c=none
 pin:∀p∈X.pn++pins,s.heap.get? p.1=some p.2/\H p.1=none/\p.1≠X.env.locals/\p.1∉X.fs/\∀v,p.2.data≠.cell v
 hok:HOk X.prog X.w H s.heap
 len:σ.length=X.N.length
section
variable {X:Cx}{pins:List (Addr×Obj)}{σ:List (Option V)}{H H':Hp}{s:Shared}{h':Heap}
theorem Cx.Ok.nofr (ok:X.Ok){b:Addr}{o:Obj}(e:X.base.get? b=some o):b∉X.fs:=λhb=>by
 have:=(ok.funs.mem hb).1
 rw[e] at this;cases this
theorem Inv.bs (I:Inv X pins σ H s):∀b o,X.base.get? b=some o->s.heap.get? b=some o/\H b=none:=λb o e=>
 ⟨I.base.keep b o (I.ok.bs b o e).1 (I.ok.bs b o e).2 (I.ok.nofr e) (I.ok.noex b o e),I.base.free b o (I.ok.bs b o e).1 (I.ok.bs b o e).2 (I.ok.noex b o e)⟩
theorem Inv.bk (I:Inv X pins σ H s):∀b o,X.base.get? b=some o->s.heap.get? b=some o:=λb o e=>(I.bs b o e).1
theorem Inv.mod (I:Inv X pins σ H s):Mod X.K X.mg X.base:=I.ok.mod
theorem Inv.kIn (I:Inv X pins σ H s):X.K.In s.heap:=I.ok.mod.kin.keeps I.bk
theorem Inv.lt (I:Inv X pins σ H s):X.env.locals < s.heap.objs.size:=let ⟨_,hn,_⟩:=I.loc;hn.lt
theorem Inv.sz (I:Inv X pins σ H s):X.s₀.heap.objs.size<=s.heap.objs.size:=Nat.le_trans I.ok.above (Nat.le_of_lt I.lt)
theorem Inv.nofs (I:Inv X pins σ H s){a:Addr}(h:s.heap.objs.size<=a):a∉X.fs:=λhb=>by
 obtain⟨_,o,ho,_⟩:=I.ok.funs.mem hb
 exact absurd (Nat.lt_of_lt_of_le (Heap.lt_size ho) (Nat.le_trans I.sz h)) (Nat.lt_irrefl _)
theorem Inv.cne (I:Inv X pins σ H s):∀x c,X.env.cells.lookup x=some c->c≠X.env.locals:=λx c e z=>by
 obtain⟨v,o,ho,hd⟩:=I.cell x c e
 obtain⟨m,⟨o',es,ep,ho',hd',_⟩,_⟩:=I.loc
 rw[z,ho'] at ho;cases ho;rw[hd'] at hd;cases hd
theorem Inv.funs (I:Inv X pins σ H s):s.heap.FunFrames X.base X.outer:=by
 have all:∀(l:List Env),(∀b∈frs l,b∈X.fs)->X.s₀.heap.FunFrames X.base l->s.heap.FunFrames X.base l:=by
  intro l
  induction l with
  |nil=>intro _ _;trivial
  |cons env r ih=>
   intro hs hl
   obtain⟨hk,⟨L,o,hf,hn,ho,hd⟩,hr⟩:=hl
   have hL:L∈X.fs:=hs L (by unfold frs;rw[List.filterMap_cons,hf];exact List.mem_cons_self)
   obtain⟨sl,e⟩:=I.base.slot L o ho (I.ok.frf L hL) hL λz=>I.ok.exfs L z hL
   exact⟨hk,⟨L,_,hf,hn,e,hd⟩,ih (λb hb=>hs b (by unfold frs;rw[List.filterMap_cons,hf];exact List.mem_cons_of_mem _ hb)) hr⟩
 exact all X.outer (λ_ hb=>hb) I.ok.funs
theorem Inv.stack (I:Inv X pins σ H s):s.heap.FunFrames X.base X.stack:=by
 rcases I.ok.stk with e | ⟨e,hf⟩
 ·rw[e];exact I.funs
 ·rw[e]
  obtain⟨m,hn,_⟩:=I.loc
  refine .cons (by rw[I.ok.kind];decide) hf hn ?_ I.funs
  exact Heap.get?_none_of_le (Nat.le_trans I.ok.bsz I.ok.above)
theorem Inv.stkSub (I:Inv X pins σ H s):∀b∈frs X.stack,b∈X.env.locals::X.fs:=λb hb=>by
 rcases I.ok.stk with e | ⟨e,hf⟩
 ·rw[e] at hb;exact List.mem_cons_of_mem _ hb
 ·rw[e] at hb
  unfold frs at hb
  rw[List.filterMap_cons,hf] at hb
  exact hb
theorem Inv.stkFree (I:Inv X pins σ H s):∀b∈frs X.stack,H b=none:=λb hb=>by
 rcases List.mem_cons.mp (I.stkSub b hb) with e | hb
 ·rw[e];exact I.free
 ·obtain⟨_,o,ho,_⟩:=I.ok.funs.mem hb
  exact I.base.free b o ho (I.ok.frf b hb) λz=>I.ok.exfs b z hb
theorem Inv.step {g':Array GenState}{t':Nat}{d':Drawn}{ch:List Addr}(I:Inv X pins σ H s)
  (hch:∀b∈ch,(b∈X.ex∨X.s₀.heap.objs.size<=b)/\b≠X.env.locals/\(∀x c,X.env.cells.lookup x=some c->c≠b)/\∀p∈X.pn++pins,p.1≠b)
  (keep:∀b o,b≠X.env.locals->b∉X.fs->b∉ch->s.heap.get? b=some o->H b=none->h'.get? b=some o)
  (slot:∀b o,b≠X.env.locals->b∈X.fs->b∉ch->s.heap.get? b=some o->H b=none->∃sl,h'.get? b=some { o with slots:=sl }) (free:∀b o,b∉ch->s.heap.get? b=some o->H b=none->H' b=none)
  (there:∀b o,b∉ch->s.heap.get? b=some o->∃o',h'.get? b=some o')
  (tups:∀b xs,H b=some (.tup xs)->H' b=some (.tup xs)) (frzs:∀b o u,H b=some (.frz o u)->H' b=some (.frz o u)) (tbls:∀b ps,H b=some (.tbl ps)->∃more,H' b=some (.tbl (ps++more)))
  (ns:∀m,s.heap.Ns X.env.locals m->h'.Ns X.env.locals m) (hok:HOk X.prog X.w H' h') (hg:AllBare g') :
  Inv X pins σ H' { s with heap:=h',gens:=g',drawn:=d',toks:=t' }:=by
 have neL:∀b o,X.s₀.heap.get? b=some o->b≠X.env.locals:=λb o e=>Nat.ne_of_lt (Nat.lt_of_lt_of_le (Heap.lt_size e) I.ok.above)
 have neC:∀b o,X.s₀.heap.get? b=some o->b∉X.ex->b∉ch:=λb o e hx hb=>by
  rcases (hch b hb).1 with z | z
  ·exact hx z
  ·exact absurd (Nat.lt_of_lt_of_le (Heap.lt_size e) z) (Nat.lt_irrefl _)
 have cellK:∀x c,X.env.cells.lookup x=some c->∀v,s.heap.IsCell c v->h'.IsCell c v:=λx c e v ⟨o,ho,hd⟩=>by
  have nch:c∉ch:=λz=>(hch c z).2.2.1 x c e rfl
  by_cases hc:c∈X.fs
  ·obtain⟨sl,q⟩:=slot c o (I.cne x c e) hc nch ho (I.freeC x c e)
   exact⟨_,q,hd⟩
  ·exact⟨o,keep c o (I.cne x c e) hc nch ho (I.freeC x c e),hd⟩
 refine⟨I.ok,I.os,hg,⟨λb o e n hb hx=>?_,λb o e n hb hx=>?_,λb o e n hx=>?_,λb o e hx=>?_,λb xs e=>tups b xs (I.base.tups b xs e),λb o xs e=>frzs b o xs (I.base.frzs b o xs e),λb ps e=>?_⟩,?_,λx c e=>?_,?_,λx c e=>?_,λp hp=>?_,hok,I.len⟩
 ·exact keep b o (neL b o e) hb (neC b o e hx) (I.base.keep b o e n hb hx) (I.base.free b o e n hx)
 ·obtain⟨sl,e1⟩:=I.base.slot b o e n hb hx
  obtain⟨sl',e2⟩:=slot b _ (neL b o e) hb (neC b o e hx) e1 (I.base.free b o e n hx)
  exact⟨sl',e2⟩
 ·obtain⟨o',e1⟩:=I.base.there b o e hx
  exact free b o' (neC b o e hx) e1 (I.base.free b o e n hx)
 ·obtain⟨o',e1⟩:=I.base.there b o e hx
  exact there b o' (neC b o e hx) e1
 ·obtain⟨m1,e1⟩:=I.base.tbls b ps e
  obtain⟨m2,e2⟩:=tbls b _ e1
  exact⟨m1++m2,by rw[e2,Array.append_assoc]⟩
 ·obtain⟨m,hn,hl⟩:=I.loc
  refine⟨m,ns m hn,λi x v e1 e2 e3=>?_⟩
  obtain⟨u,r,l⟩:=hl i x v e1 e2 e3
  refine⟨u,r,?_⟩
  rcases l with l | ⟨k,c,e,z⟩
  ·exact .inl l
  ·exact .inr ⟨k,c,e,cellK x c e _ z⟩
 ·obtain⟨v,z⟩:=I.cell x c e
  exact⟨v,cellK x c e v z⟩
 ·obtain⟨m,⟨o,_,_,ho,_⟩,_⟩:=I.loc
  exact free _ o (λz=>(hch _ z).2.1 rfl) ho I.free
 ·obtain⟨v,o,ho,hd⟩:=I.cell x c e
  exact free c o (λz=>(hch c z).2.2.1 x c e rfl) ho (I.freeC x c e)
 ·obtain⟨e,n,ne,nf,d⟩:=I.pin p hp
  have nch:p.1∉ch:=λz=>(hch p.1 z).2.2.2 p hp rfl
  exact⟨keep p.1 p.2 ne nf nch e n,free p.1 p.2 nch e n,ne,nf,d⟩
theorem Inv.un {t':Nat}(I:Inv X pins σ H s)(u:Un X.fs [] H H' s.heap h')(hok:HOk X.prog X.w H' h'):Inv X pins σ H' { s with heap:=h',toks:=t' }:=by
 obtain⟨m,⟨o,es,ep,ho,r⟩,_⟩:=id I.loc
 obtain⟨sl,hL⟩:=u.any ho I.free (by simp)
 exact I.step (g':=s.gens) (d':=s.drawn) (ch:=[]) (λ_ z=>nomatch z) (λb o _ hb _ e n=>u.keep b o e n hb (by simp)) (λb o _ hb _ e n=>u.slot b o e n hb (by simp)) (λb o _ e n=>u.free b o e n (by simp)) (λb o _ e=>u.there b o e (by simp)) u.tups u.frzs u.tbls (λm' hm=>by
  obtain⟨o',es',ep',ho',r'⟩:=hm
  rw[ho] at ho';cases ho'
  exact⟨_,es',ep',hL,r'⟩) hok I.bare
theorem Inv.call {g':Array GenState}{t':Nat}{d':Drawn}{ch:List Addr}(I:Inv X pins σ H s)(u:Un (frs X.stack) ch H H' s.heap h')(hok:HOk X.prog X.w H' h')(hg:AllBare g')
  (hch:∀b∈ch,(b∈X.ex∨X.s₀.heap.objs.size<=b)/\b≠X.env.locals/\(∀x c,X.env.cells.lookup x=some c->c≠b)/\∀p∈X.pn++pins,p.1≠b) :
  Inv X pins σ H' { s with heap:=h',gens:=g',drawn:=d',toks:=t' }:=by
 obtain⟨m,⟨o,es,ep,ho,r⟩,_⟩:=id I.loc
 obtain⟨sl,hL⟩:=u.any ho I.free λz=>(hch _ z).2.1 rfl
 exact I.step (ch:=ch) hch (λb o hL hb hc e n=>u.keep b o e n (λz=>(List.mem_cons.mp (I.stkSub b z)).elim hL hb) hc) (λb o _ _ hc e n=>u.any e n hc) (λb o hc e n=>u.free b o e n hc) (λb o hc e=>u.there b o e hc) u.tups u.frzs u.tbls (λm' hm=>by
  obtain⟨o',es',ep',ho',r'⟩:=hm
  rw[ho] at ho';cases ho'
  exact⟨_,es',ep',hL,r'⟩) hok hg
theorem Inv.turned {t':Nat}{it:Addr}(I:Inv X pins σ H s)(k:∀b o,b≠it->s.heap.get? b=some o->h'.get? b=some o)(hn:H it=none)(hL:it≠X.env.locals)
  (h1:it∈X.ex∨X.s₀.heap.objs.size<=it) (h2:∀x c,X.env.cells.lookup x=some c->c≠it) (h3:∀p∈X.pn++pins,p.1≠it):Inv X pins σ H { s with heap:=h',toks:=t' }:=by
 have nit:∀b u,H b=some u->b≠it:=λb u e z=>by rw[z,hn] at e;cases e
 refine I.step (g':=s.gens) (d':=s.drawn) (ch:=[it]) (λb hb=>?_) (λb o _ _ hc e _=>k b o (λz=>hc (by simp[z])) e) (λb o _ _ hc e _=>⟨o.slots,k b o (λz=>hc (by simp[z])) e⟩) (λ_ _ _ _ n=>n)
  (λb o hc e=>⟨o,k b o (λz=>hc (by simp[z])) e⟩) (λ_ _ e=>e) (λ_ _ _ e=>e) (λb ps e=>⟨#[],by rw[e];simp⟩) (λm hm=>?_) (λb u e=>?_) I.bare
 ·have e:b=it:=by simpa using hb
  subst e
  exact⟨h1,hL,h2,h3⟩
 ·obtain⟨o,es,ep,ho,r⟩:=hm
  exact⟨o,es,ep,k _ o (Ne.symm hL) ho,r⟩
 ·refine (I.hok b u e).stay (λc v hc q=>k c v ?_ q) (λ_ q=>q) λ_ _ q=>q
  rcases hc with z | z
  ·rw[z];exact nit b u e
  ·exact nit c _ z
theorem Inv.tok (I:Inv X pins σ H s)(t:Nat):Inv X pins σ H { s with toks:=t }:=I.un (h':=s.heap) (t':=t) Un.refl I.hok
theorem Inv.kept {t':Nat}(I:Inv X pins σ H s)(k:∀b u,s.heap.get? b=some u->h'.get? b=some u):Inv X pins σ H { s with heap:=h',toks:=t' }:=I.un (Un.kept k) (I.hok.kept k)
theorem Inv.laid {a:Addr}{o:HO}{t':Nat}(I:Inv X pins σ H s)(k:∀b u,s.heap.get? b=some u->h'.get? b=some u)(hp:s.heap.objs.size<=a)(new:ObjOk X.prog X.w (upd H a o) h' a o) :
  Inv X pins σ (upd H a o) { s with heap:=h',toks:=t' }:=I.un (Un.laid k hp (I.hok.fresh hp)) (I.hok.laid k hp new)
theorem Inv.write {x e:Addr}{o:HO}{t':Nat}(I:Inv X pins σ H s)(mu:Mut (H x))(he:e=x∨H e=some (.own x))(k:∀b u,b≠e->s.heap.get? b=some u->h'.get? b=some u)(heo:∃u,h'.get? e=some u)
  (new:ObjOk X.prog X.w (upd H x o) h' x o):Inv X pins σ (upd H x o) { s with heap:=h',toks:=t' }:=I.un (Un.write mu he k heo) (I.hok.write mu he k heo new)
theorem Inv.pins_of {pins':List (Addr×Obj)}(I:Inv X pins σ H s)(h:∀p∈pins',s.heap.get? p.1=some p.2/\H p.1=none/\p.1≠X.env.locals/\p.1∉X.fs/\∀v,p.2.data≠.cell v):Inv X pins' σ H s :=
 ⟨I.ok,I.os,I.bare,I.base,I.loc,I.cell,I.free,I.freeC,λp hp=>(List.mem_append.mp hp).elim (λz=>I.pin p (List.mem_append_left _ z)) (h p),I.hok,I.len⟩
theorem qk {N:List Str}(hN:N.Nodup){i j:Nat}{x:Str}(a:N[i]?=some x)(b:N[j]?=some x):i=j:=by
 obtain⟨h1,e1⟩:=List.getElem?_eq_some_iff.mp a
 obtain⟨h2,e2⟩:=List.getElem?_eq_some_iff.mp b
 exact (List.getElem_inj hN).mp (e1.trans e2.symm)
theorem qy {M:Model}{A:Around}{E:Value->Shared->Prop}{i:Nat}{x:Str}{v:V}{u:Value}{Q:Unit->Shared->Prop}(I:Inv X pins σ H s)(hN:X.N.Nodup)(hi:X.N[i]?=some x)(hx:Loc X.env.scope x)(r:RelV v u)
  (h:∀s',Inv X pins (σ.set i (some v)) H s'->(∃a,Heap.SameBut a s.heap s'.heap/\(a=X.env.locals∨X.env.cells.lookup x=some a))->Q () s') (hf:X.fn x=true∨X.env.scope.names.lookup x=some .local:=by first | exact .inl rfl | exact .inr rfl | assumption):wpAny M A (storeName X.env x u) Q E s:=by
 obtain⟨m,hn,hl⟩:=id I.loc
 have hcls:(X.env.scope.kind==.class||(X.env.scope.kind==.module&&X.env.locals != X.env.globals))=false:=by rw[I.ok.kind];rfl
 have hiσ:i < σ.length:=by rw[I.len];exact (List.getElem?_eq_some_iff.mp hi).1
 have cne:=I.cne
 have tracked:∀ {a:Addr} {h':Heap},(∃o,s.heap.get? a=some o/\H a=none)->Heap.SameBut a s.heap h'->HOk X.prog X.w H h':=fun {a h'} ha hs b ob e=>by
  obtain⟨_,_,hfree⟩:=ha
  refine (I.hok b ob e).stay (λc w' hc q=>(hs.2 c ?_).trans q) (λ_ q=>q) λ_ _ q=>q
  rintro rfl
  rcases hc with rfl | hc
  ·rw[hfree] at e;cases e
  ·rw[hfree] at hc;cases hc
 rcases hx with hk | hk
 ·refine wpAny_storeName_local hk hn (λh' hn' hs=>?_) hcls
  obtain⟨oL,_,_,hoL,_⟩:=id hn
  refine h _ ⟨I.ok,I.os,I.bare,⟨λb o e n hb hx=>?_,λb o e n hb hx=>?_,I.base.free,λb o e hx=>?_,I.base.tups,I.base.frzs,I.base.tbls⟩,⟨_,hn',λj y v' e1 e2 e3=>?_⟩,λy c e=>?_,I.free,I.freeC,λp hp=>?_,tracked ⟨oL,hoL,I.free⟩ hs,by simpa using I.len⟩ ⟨_,hs,.inl rfl⟩
  ·exact (hs.2 b (Nat.ne_of_lt (Nat.lt_of_lt_of_le (Heap.lt_size e) I.ok.above))).trans (I.base.keep b o e n hb hx)
  ·obtain⟨sl,e1⟩:=I.base.slot b o e n hb hx
   exact⟨sl,(hs.2 b (Nat.ne_of_lt (Nat.lt_of_lt_of_le (Heap.lt_size e) I.ok.above))).trans e1⟩
  ·obtain⟨o',e1⟩:=I.base.there b o e hx
   exact⟨o',(hs.2 b (Nat.ne_of_lt (Nat.lt_of_lt_of_le (Heap.lt_size e) I.ok.above))).trans e1⟩
  ·by_cases hj:j=i
   ·subst hj
    rw[hi] at e1;cases e1
    rw[List.getElem?_set_self hiσ] at e2
    cases e2
    exact⟨u,r,.inl ⟨hk,by simp⟩⟩
   ·rw[List.getElem?_set_ne (Ne.symm hj)] at e2
    obtain⟨u',r',q⟩:=hl j y v' e1 e2 e3
    refine⟨u',r',?_⟩
    rcases q with⟨k,e⟩ | ⟨k,c,e,z⟩
    ·refine .inl ⟨k,?_⟩
     have:y≠x:=λe=>hj (qk hN e1 (e ▸ hi))
     simp[this,e]
    ·exact .inr ⟨k,c,e,z.sameBut hs (cne y c e)⟩
  ·obtain⟨w',z⟩:=I.cell y c e
   exact⟨w',z.sameBut hs (cne y c e)⟩
  ·obtain⟨e,n,ne,nf,d⟩:=I.pin p hp
   exact⟨(hs.2 p.1 ne).trans e,n,ne,nf,d⟩
 ·have hfn:X.fn x=true:=by
   rcases hf with z | z
   ·exact z
   ·rw[z] at hk;cases hk
  obtain⟨c,hc⟩:=I.ok.has x (.inl hk)
  obtain⟨w',z⟩:=I.cell x c hc
  refine wpAny_storeName_cell I.ok.kind hk hc z (λh' hc' hs=>?_)
  obtain⟨oc,hoc,hocd⟩:=id z
  refine h { s with heap:=h' } ⟨I.ok,I.os,I.bare,⟨λb o e n hb hx=>?_,λb o e n hb hx=>?_,I.base.free,λb o e hx=>?_,I.base.tups,I.base.frzs,I.base.tbls⟩,⟨m,hn.sameBut hs (Ne.symm (cne x c hc)),λj y v' e1 e2 e3=>?_⟩,λy c' e=>?_,I.free,I.freeC,λp hp=>?_,tracked ⟨oc,hoc,I.freeC x c hc⟩ hs,by simpa using I.len⟩ ⟨c,hs,.inr hc⟩
  ·exact (hs.2 b (Nat.ne_of_lt (Nat.lt_of_lt_of_le (Heap.lt_size e) (I.ok.cab x c hfn hc)))).trans (I.base.keep b o e n hb hx)
  ·obtain⟨sl,e1⟩:=I.base.slot b o e n hb hx
   exact⟨sl,(hs.2 b (Nat.ne_of_lt (Nat.lt_of_lt_of_le (Heap.lt_size e) (I.ok.cab x c hfn hc)))).trans e1⟩
  ·obtain⟨o',e1⟩:=I.base.there b o e hx
   exact⟨o',(hs.2 b (Nat.ne_of_lt (Nat.lt_of_lt_of_le (Heap.lt_size e) (I.ok.cab x c hfn hc)))).trans e1⟩
  ·by_cases hj:j=i
   ·subst hj
    rw[hi] at e1;cases e1
    rw[List.getElem?_set_self hiσ] at e2
    cases e2
    exact⟨u,r,.inr ⟨.inl hk,c,hc,hc'⟩⟩
   ·rw[List.getElem?_set_ne (Ne.symm hj)] at e2
    obtain⟨u',r',q⟩:=hl j y v' e1 e2 e3
    refine⟨u',r',?_⟩
    rcases q with q | ⟨k,c',e,z'⟩
    ·exact .inl q
    ·refine .inr ⟨k,c',e,z'.sameBut hs ?_⟩
     rintro rfl
     exact hj (qk hN e1 (I.ok.inj _ _ _ e hc ▸ hi))
  ·by_cases hcc:c'=c
   ·subst hcc;exact⟨_,hc'⟩
   ·obtain⟨w2,z2⟩:=I.cell y c' e
    exact⟨w2,z2.sameBut hs hcc⟩
  ·obtain⟨e,n,ne,nf,d⟩:=I.pin p hp
   refine⟨(hs.2 p.1 ?_).trans e,n,ne,nf,d⟩
   intro q
   rw[q,hoc] at e
   have q':oc=p.2:=Option.some.inj e
   exact d w' (by rw[<-q'];exact hocd)
theorem qg {M:Model}{A:Around}{E:Value->Shared->Prop}{i:Nat}{x:Str}{v:V}{u:Value}{Q:Unit->Shared->Prop}(I:Inv X pins σ H s)(hN:X.N.Nodup)(hi:X.N[i]?=some x)(hx:Loc X.env.scope x)(r:RelV v u)
  (h:∀s',Inv X pins (σ.set i (some v)) H s'->Q () s') (hf:X.fn x=true∨X.env.scope.names.lookup x=some .local:=by first | exact .inl rfl | exact .inr rfl | assumption):wpAny M A (storeName X.env x u) Q E s :=
 qy I hN hi hx r (λs' I' _=>h s' I') hf
theorem Inv.call' {s':Shared}{ch:List Addr}(I:Inv X pins σ H s)(ho:s'.os=s.os)(u:Un (frs X.stack) ch H H' s.heap s'.heap)(hok:HOk X.prog X.w H' s'.heap)(hg:AllBare s'.gens)
  (hch:∀b∈ch,(b∈X.ex∨X.s₀.heap.objs.size<=b)/\b≠X.env.locals/\(∀x c,X.env.cells.lookup x=some c->c≠b)/\∀p∈X.pn++pins,p.1≠b):Inv X pins σ H' s':=by
 obtain⟨h',g',d',t',o'⟩:=s'
 have e:o'=s.os:=ho
 subst e
 exact I.call (g':=g') (t':=t') (d':=d') u hok hg hch
end
abbrev XK:=Value->Option Addr->Hp->Prop
abbrev St:=List (Option V)
abbrev VK:=V->Hp->Prop
abbrev TE:=St->Hp->VK->Prop
abbrev TT:=St->Hp->(Bool->Hp->Prop)->Prop
abbrev TA:=St->Hp->(List V->Hp->Prop)->Prop
structure Ends where
 nx:St->Hp->Prop
 rt:VK
 bk:St->Hp->Prop:=λ_ _=>False
 ct:St->Hp->Prop:=λ_ _=>False
abbrev TS:=Ends->St->Hp->Prop
def EP (X:Cx)(pins:List (Addr×Obj))(σ:St)(Q:VK)(u:Value)(s':Shared):Prop:=∃v H',Inv X pins σ H' s'/\RelV v u/\Q v H'
def TP (X:Cx)(pins:List (Addr×Obj))(σ:St)(Q:Bool->Hp->Prop)(b:Bool)(s':Shared):Prop:=∃H',Inv X pins σ H' s'/\Q b H'
def AP (X:Cx)(pins:List (Addr×Obj))(σ:St)(Q:List V->Hp->Prop)(us:List Value)(s':Shared):Prop:=∃vs H',Inv X pins σ H' s'/\Vals vs us/\Q vs H'
def SP (X:Cx)(pins:List (Addr×Obj))(D:Ends)(f:Flow)(s':Shared):Prop :=
 match f with
 |.next=>∃σ' H',Inv X pins σ' H' s'/\D.nx σ' H'
 |.brk=>∃σ' H',Inv X pins σ' H' s'/\D.bk σ' H'
 |.cont=>∃σ' H',Inv X pins σ' H' s'/\D.ct σ' H'
 |.ret u=>∃v σ' H',Inv X pins σ' H' s'/\RelV v u/\D.rt v H'
def PE (X:Cx)(e:Expr)(t:TE):Prop :=
 ∀(pins:List (Addr×Obj)) (s:Shared) (σ:St) (H:Hp) (Q:VK),Inv X pins σ H s->t σ H Q->wpAny (model X.prog X.w) X.A (eval e X.env) (EP X pins σ Q) X.xe s
def PT (X:Cx)(e:Expr)(t:TT):Prop :=
 ∀(pins:List (Addr×Obj)) (s:Shared) (σ:St) (H:Hp) (Q:Bool->Hp->Prop),Inv X pins σ H s->t σ H Q->wpAny (model X.prog X.w) X.A (isTrue e X.env (eval e X.env)) (TP X pins σ Q) X.xe s
def PW (X:Cx)(e:Expr)(t:TT):Prop :=
 ∀(whole:Sem Value) (pins:List (Addr×Obj)) (s:Shared) (σ:St) (H:Hp) (Q:Bool->Hp->Prop),Inv X pins σ H s->t σ H Q->wpAny (model X.prog X.w) X.A (isTrue e X.env whole) (TP X pins σ Q) X.xe s
theorem PW.pt {X:Cx}{e:Expr}{t:TT}(h:PW X e t):PT X e t:=h _
def PA (X:Cx)(es:List Expr)(t:TA):Prop :=
 ∀(pos:Pos) (pins:List (Addr×Obj)) (s:Shared) (σ:St) (H:Hp) (Q:List V->Hp->Prop),Inv X pins σ H s->t σ H Q->wpAny (model X.prog X.w) X.A (spliced (backTo pos (starEach es X.env))) (AP X pins σ Q) X.xe s
def PS (X:Cx)(st:Stmt)(t:TS):Prop :=
 ∀(pins:List (Addr×Obj)) (s:Shared) (σ:St) (H:Hp) (D:Ends),Inv X pins σ H s->t D σ H->wpAny (model X.prog X.w) X.A (exec st X.env) (SP X pins D) X.xe s
def PSs (X:Cx)(st:List Stmt)(t:TS):Prop :=
 ∀(pins:List (Addr×Obj)) (s:Shared) (σ:St) (H:Hp) (D:Ends),Inv X pins σ H s->t D σ H->wpAny (model X.prog X.w) X.A (execs st X.env) (SP X pins D) X.xe s
theorem thn {α:Type}{t:Sem α}{Q Q':α->Shared->Prop}{M:Model}{A:Around}{E:Value->Shared->Prop}{s:Shared}(h:wpAny M A t Q E s)(hQ:∀a s,Q a s->Q' a s):wpAny M A t Q' E s:=wpAny_mono h hQ λ_ _ x=>x
section
variable {X:Cx}
def tVar (i:Nat):TE:=λσ H Q=>∃v,σ[i]?=some (some v)/\Q v H
def tC (v:V):TE:=λ_ H Q=>Q v H
theorem Za {i:Nat}{x:Str}{pos:Pos}(hN:X.N[i]?=some x)(hv:Vis X.env.scope x)(hd:(x==("__debug__" : Str))=false:=by decide) (hcd:(x==("__classdict__" : Str))=false:=by decide):PE X (.Name x pos) (tVar i):=by
 intro pins s σ H Q I h
 obtain⟨v,e,h⟩:=h
 obtain⟨m,hn,hl⟩:=I.loc
 obtain⟨u,r,l⟩:=hl i x v hN e hv
 have fin:EP X pins σ Q u s:=⟨v,H,I,r,h⟩
 rcases l with⟨hk,hm⟩ | ⟨hk,c,hc,hcell⟩
 ·exact wpAny_Name (wpAny_loadName_local I.ok.kind hk hn hm fin) hd
 ·rcases hk with hk | hk
  ·exact wpAny_Name (wpAny_loadName_cell I.ok.kind hk hc hcell fin) hd
  ·exact wpAny_Name (wpAny_loadName_free I.ok.kind hk hc hcell fin hcd) hd
theorem uT {i j pos}:PE X (.Constant (.int i) j pos) (tC (.int i)):=λ_ _ _ H _ I h=>wpAny_Constant_int ⟨.int i,H,I.tok _,⟨_,rfl⟩,h⟩
theorem WM {b j pos}:PE X (.Constant (.bool b) j pos) (tC (.bl b)):=λ_ _ _ H _ I h=>Constant_bool ⟨.bl b,H,I,rfl,h⟩
theorem Jd {j pos}:PE X (.Constant .none j pos) (tC .non):=λ_ _ _ H _ I h=>Constant_none ⟨.non,H,I,rfl,h⟩
theorem Z3 {x j pos}:PE X (.Constant (.str x) j pos) (tC (.str x)):=λ_ _ _ H _ I h=>Calls.Constant_str ⟨.str x,H,I.tok _,⟨_,rfl⟩,h⟩
def Gl (X:Cx)(x:Str):Prop:=X.env.kindOf x=some .globalImplicit
theorem yv {E:Value->Shared->Prop}{pins:List (Addr×Obj)}{s:Shared}{σ:St}{H:Hp}{x:Str}{u:Value}{pos:Pos}{Q:Value->Shared->Prop}(I:Inv X pins σ H s)(hg:Gl X x)(hm:X.mg x=some u)(h:Q u s)
  (hd:(x==("__debug__" : Str))=false:=by decide):wpAny (model X.prog X.w) X.A (eval (.Name x pos) X.env) Q E s :=
 Calls.Name_function_global I.ok.kind hg (Calls.loadGlobal_global (by rw[I.ok.glob];exact I.mod.glob.keeps I.bk) hm h) hd
theorem vg {E:Value->Shared->Prop}{pins:List (Addr×Obj)}{s:Shared}{σ:St}{H:Hp}{x:Str}{u:Value}{pos:Pos}{Q:Value->Shared->Prop}(I:Inv X pins σ H s)(hg:Gl X x)(hm:X.mg x=none)(hv:bootBuiltins x=some u)(h:Q u s)
  (hn:x ≠ "__name__" := by decide) (hd:(x==("__debug__" : Str))=false:=by decide):wpAny (model X.prog X.w) X.A (eval (.Name x pos) X.env) Q E s:=by
 obtain⟨mb,h1,h2⟩:=I.mod.blt
 exact Calls.Name_function_global I.ok.kind hg (Calls.loadGlobal_builtin (by rw[I.ok.glob];exact I.mod.glob.keeps I.bk) hm (by rw[I.ok.blt];exact h1.keeps I.bk) ((h2 x hn).trans hv) h) hd
theorem Zf {x:Str}{v:V}{u:Value}{pos:Pos}(hg:Gl X x)(hm:X.mg x=some u)(r:RelV v u)(hd:(x==("__debug__" : Str))=false:=by decide):PE X (.Name x pos) (tC v) :=
 λ_ _ _ H _ I h=>yv I hg hm ⟨v,H,I,r,h⟩ hd
theorem kK {x:Str}{v:V}{u:Value}{pos:Pos}(hg:Gl X x)(hm:X.mg x=none)(hv:bootBuiltins x=some u)(r:RelV v u)(hn:x ≠ "__name__" := by decide) (hd:(x==("__debug__" : Str))=false:=by decide):PE X (.Name x pos) (tC v) :=
 λ_ _ _ H _ I h=>vg I hg hm hv ⟨v,H,I,r,h⟩ hn hd
variable {a b:Expr}{ta tb:TE}{pos:Pos}
variable {tA tB':TT}{rest:List Expr}
def tAnd (t u:TT):TT:=λσ H Q=>t σ H λc H1=>if c=true then u σ H1 Q else Q false H1
def tOr (t u:TT):TT:=λσ H Q=>t σ H λc H1=>if c=true then Q true H1 else u σ H1 Q
def tNot (t:TT):TT:=λσ H Q=>t σ H λc H1=>Q (!c) H1
theorem YG (ha:PT X a tA):PW X (.BoolOp .And [a] pos) tA:=by
 intro wh pins s σ H Q I h
 refine isTrue_and (thn (ha pins s σ H Q I h) λc s1 e=>?_)
 cases c with
 |true=>exact isTrue_and_nil e
 |false=>exact e
theorem Jm (ha:PT X a tA):PW X (.BoolOp .Or [a] pos) tA:=by
 intro wh pins s σ H Q I h
 refine isTrue_or (thn (ha pins s σ H Q I h) λc s1 e=>?_)
 cases c with
 |false=>exact isTrue_or_nil e
 |true=>exact e
theorem YD (ha:PT X a tA)(hb:PW X (.BoolOp .And (b::rest) pos) tB'):PW X (.BoolOp .And (a::b::rest) pos) (tAnd tA tB'):=by
 intro wh pins s σ H Q I h
 refine isTrue_and (thn (ha pins s σ H _ I h) λc s1 ⟨H1,I1,q1⟩=>?_)
 cases c with
 |true=>exact hb wh pins s1 σ H1 Q I1 q1
 |false=>exact⟨H1,I1,q1⟩
theorem Vj (ha:PT X a tA)(hb:PW X (.BoolOp .Or (b::rest) pos) tB'):PW X (.BoolOp .Or (a::b::rest) pos) (tOr tA tB'):=by
 intro wh pins s σ H Q I h
 refine isTrue_or (thn (ha pins s σ H _ I h) λc s1 ⟨H1,I1,q1⟩=>?_)
 cases c with
 |true=>exact⟨H1,I1,q1⟩
 |false=>exact hb wh pins s1 σ H1 Q I1 q1
theorem Jc (ha:PT X a tA):PT X (.UnaryOp .Not a pos) (tNot tA):=by
 intro pins s σ H Q I h
 exact isTrue_not (ha pins s σ H (λc H1=>Q (!c) H1) I h)
def tAndV (ta tb:TE):TE:=λσ H Q=>ta σ H λx H1=>∃c,x=.bl c/\if c=true then tb σ H1 Q else Q (.bl false) H1
def tNotV (ta:TE):TE:=λσ H Q=>ta σ H λx H1=>∃c,x=.bl c/\Q (.bl (!c)) H1
theorem W8 {op}{t:TE}(h:PE X a t):PE X (.BoolOp op [a] pos) t:=λpins s σ H Q I hw=>BoolOp_one (h pins s σ H Q I hw)
theorem YM (ha:PE X a ta)(hb:PE X (.BoolOp .And (b::rest) pos) tb):PE X (.BoolOp .And (a::b::rest) pos) (tAndV ta tb):=by
 intro pins s σ H Q I h
 refine BoolOp_and (thn (ha pins s σ H _ I h) λv s1 ⟨x,H1,I1,r1,q1⟩=>?_)
 obtain⟨c,rfl,q1⟩:=q1
 cases r1
 refine wpAny_truthy_bool ?_
 cases c with
 |true=>exact hb pins s1 σ H1 Q I1 q1
 |false=>exact⟨.bl false,H1,I1,rfl,q1⟩
theorem K2 (ha:PE X a ta):PE X (.UnaryOp .Not a pos) (tNotV ta):=by
 intro pins s σ H Q I h
 refine UnaryOp_ (thn (ha pins s σ H _ I h) λv s1 ⟨x,H1,I1,r1,q1⟩=>?_)
 obtain⟨c,rfl,q1⟩:=q1
 cases r1
 exact not_of (wpAny_truthy_bool ⟨.bl (!c),H1,I1,rfl,q1⟩)
def tIf (t:TT)(ta tb:TE):TE:=λσ H Q=>t σ H λc H1=>if c=true then ta σ H1 Q else tb σ H1 Q
theorem W5 {c:Expr}(hc:PT X c tA)(ha:PE X a ta)(hb:PE X b tb):PE X (.IfExp c a b pos) (tIf tA ta tb):=by
 intro pins s σ H Q I h
 refine wpAny_IfExp (thn (hc pins s σ H _ I h) λd s1 ⟨H1,I1,q1⟩=>?_)
 cases d with
 |true=>exact ha pins s1 σ H1 Q I1 q1
 |false=>exact hb pins s1 σ H1 Q I1 q1
end
def SqL (K:PySem.W.Frag)(H:Hp)(a:Addr)(xs:List V):Prop :=
 Rd H a (.lst xs) ∨
  ∃(o:Obj) (its:Array Value) (n:Nat),K.lookup a=some o/\o.cls=.type "list" /\ o.dict=none/\o.data=.seq its n/\its.size<=sizeLine/\Vals xs its.toList
def SqT (K:PySem.W.Frag)(H:Hp)(a:Addr)(xs:List V):Prop :=
 Rd H a (.tup xs) ∨
  ∃(o:Obj) (its:Array Value) (n:Nat),K.lookup a=some o/\o.cls=.type "tuple" /\ o.data=.seq its n/\its.size<=sizeLine/\Vals xs its.toList
def absV:Value->Option V
 |.none=>some .non
 |.bool b=>some (.bl b)
 |.int i _=>some (.int i)
 |.str x _=>some (.str x)
 |.bytes b _=>some (.byt b)
 |.float b _=>some (.flt b)
 |.ref a=>some (.ref a)
 |.type n=>some (.ty n)
 |_=>none
theorem RelV.abs {x:V}{u:Value}(r:RelV x u):absV u=some x:=by
 cases x with
 |non=>cases r;rfl
 |bl _=>cases r;rfl
 |int _=>obtain⟨t,rfl⟩:=r;rfl
 |str _=>obtain⟨t,rfl⟩:=r;rfl
 |byt _=>obtain⟨t,rfl⟩:=r;rfl
 |flt _=>obtain⟨t,rfl⟩:=r;rfl
 |ref _=>cases r;rfl
 |ty _=>cases r;rfl
theorem RelV.inj {x y:V}{u:Value}(r:RelV x u)(q:RelV y u):x=y:=Option.some.inj (r.abs.symm.trans q.abs)
theorem Vals.inj:∀ {xs ys:List V} {us:List Value},Vals xs us->Vals ys us->xs=ys
 |_,_,_,.nil,.nil=>rfl
 |_,_,_,.cons r t,.cons r' t'=>by rw[r.inj r',Vals.inj t t']
section
variable {X:Cx}{pins:List (Addr×Obj)}{σ:St}{H:Hp}{s:Shared}{a:Addr}{xs ys:List V}
theorem SqL.of {K:PySem.W.Frag}(h:H a=some (.lst xs)):SqL K H a xs:=.inl (.inl h)
theorem SqT.of {K:PySem.W.Frag}(h:H a=some (.tup xs)):SqT K H a xs:=.inl (.inl h)
theorem Inv.list (I:Inv X pins σ H s)(h:SqL X.K H a xs):∃its:List Value,Vals xs its/\PlainL s.heap a its.toArray/\xs.length<=sizeLine:=by
 rcases h with h | ⟨o,its,n,hk,hc,hd,hs,hz,r⟩
 ·obtain⟨z,its,n,r,e⟩:=h.ok I.hok
  exact⟨its,r,⟨_,n,e,rfl,rfl,rfl⟩,z⟩
 ·refine⟨its.toList,r,⟨o,n,I.kIn a o hk,hc,hd,by simpa using hs⟩,?_⟩
  have e:=r.length
  simp only[Array.length_toList] at e
  omega
theorem Inv.tuple (I:Inv X pins σ H s)(h:SqT X.K H a xs):∃its:List Value,Vals xs its/\IsTup s.heap a its.toArray/\xs.length<=sizeLine:=by
 rcases h with h | ⟨o,its,n,hk,hc,hs,hz,r⟩
 ·obtain⟨z,its,r,p⟩:=h.ok I.hok
  exact⟨its,r,p,z⟩
 ·refine⟨its.toList,r,⟨o,I.kIn a o hk,hc,n,by simpa using hs⟩,?_⟩
  have e:=r.length
  simp only[Array.length_toList] at e
  omega
theorem Inv.list_inj (I:Inv X pins σ H s)(h:SqL X.K H a xs)(h':SqL X.K H a ys):xs=ys:=by
 obtain⟨its,r,⟨o,n,e,_,_,d⟩,_⟩:=I.list h
 obtain⟨its',r',⟨o',n',e',_,_,d'⟩,_⟩:=I.list h'
 rw[e] at e';cases e'
 rw[d] at d'
 injection d' with d1 _
 have:its=its':=by simpa using congrArg Array.toList d1
 subst this
 exact r.inj r'
end
abbrev Cx.wish (X:Cx)(E:Value->Shared->Prop):Cx:={ X with xe:=E }
abbrev Cx.nox (X:Cx):Cx:=X.wish λ_ _=>False
theorem Cx.Ok.wish {X:Cx}(ok:X.Ok)(E:Value->Shared->Prop):(X.wish E).Ok :=
 ⟨ok.mod,ok.kind,ok.glob,ok.blt,ok.above,ok.inj,ok.has,ok.cab,ok.hd,ok.frames,ok.stk,ok.exf,ok.bs,ok.bsz,ok.noex,ok.exfs,ok.funs,ok.frf⟩
theorem Cx.Ok.unwish {X:Cx}{E:Value->Shared->Prop}(ok:(X.wish E).Ok):X.Ok :=
 ⟨ok.mod,ok.kind,ok.glob,ok.blt,ok.above,ok.inj,ok.has,ok.cab,ok.hd,ok.frames,ok.stk,ok.exf,ok.bs,ok.bsz,ok.noex,ok.exfs,ok.funs,ok.frf⟩
section
variable {X:Cx}{pins:List (Addr×Obj)}{σ:St}{H:Hp}{s:Shared}{E:Value->Shared->Prop}
theorem Inv.wish (I:Inv X pins σ H s)(E:Value->Shared->Prop):Inv (X.wish E) pins σ H s:=⟨I.ok.wish E,I.os,I.bare,I.base,I.loc,I.cell,I.free,I.freeC,I.pin,I.hok,I.len⟩
theorem Inv.unwish (I:Inv (X.wish E) pins σ H s):Inv X pins σ H s:=⟨I.ok.unwish,I.os,I.bare,I.base,I.loc,I.cell,I.free,I.freeC,I.pin,I.hok,I.len⟩
theorem SP.unwish {D:Ends}{f:Flow}{s':Shared}(h:SP (X.wish E) pins D f s'):SP X pins D f s':=by
 cases f with
 |next=>obtain⟨σ',H',I,q⟩:=h;exact⟨σ',H',I.unwish,q⟩
 |brk=>obtain⟨σ',H',I,q⟩:=h;exact⟨σ',H',I.unwish,q⟩
 |cont=>obtain⟨σ',H',I,q⟩:=h;exact⟨σ',H',I.unwish,q⟩
 |ret u=>obtain⟨v,σ',H',I,r,q⟩:=h;exact⟨v,σ',H',I.unwish,r,q⟩
theorem PT.nox {e:Expr}{t:TT}(h:PT X.nox e t):PT X e t:=λpins s σ H Q I hw=>
 wpAny_mono (h pins s σ H Q (I.wish _) hw) (λ_ _ ⟨H',I',q⟩=>⟨H',I'.unwish,q⟩) λ_ _ z=>False.elim z
theorem PSs.nox {st:List Stmt}{t:TS}(h:PSs X.nox st t):PSs X st t:=λpins s σ H D I hw=>
 wpAny_mono (h pins s σ H D (I.wish _) hw) (λ_ _ q=>q.unwish) λ_ _ z=>False.elim z
end
section
variable {X:Cx}{st:Stmt}{rest:List Stmt}{t u:TS}{e:Expr}{te:TE}{pos:Pos}
def tNext:TS:=λD σ H=>D.nx σ H
def tSeq (t u:TS):TS:=λD σ H=>t { D with nx:=u D } σ H
theorem Js:PSs X [] tNext:=λ_ _ σ H _ I h=>wpAny_execs_nil ⟨σ,H,I,h⟩
theorem ye (h1:PS X st t)(h2:PSs X rest u):PSs X (st::rest) (tSeq t u):=by
 intro pins s σ H D I h
 refine wpAny_execs_cons (thn (h1 pins s σ H { D with nx:=u D } I h) λf s1 q=>?_)
 cases f with
 |next=>
  obtain⟨σ',H',I',q⟩:=q
  exact h2 pins s1 σ' H' D I' q
 |ret v=>exact q
 |brk=>exact q
 |cont=>exact q
theorem y7 (h1:PS X st t):PSs X [st] t:=by
 intro pins s σ H D I h
 refine wpAny_execs_cons (thn (h1 pins s σ H D I h) λf s1 q=>?_)
 cases f with
 |next=>exact wpAny_execs_nil q
 |ret v=>exact q
 |brk=>exact q
 |cont=>exact q
theorem Inv.quiet {pins:List (Addr×Obj)}{σ:St}{H:Hp}{s:Shared}(I:Inv X pins σ H s):interactive X.env=false:=by simp[interactive,I.ok.kind]
def tDrop (te:TE):TS:=λD σ H=>te σ H λ_ H1=>D.nx σ H1
theorem yy (he:PE X e te)(hs:swapsWith e none pos.line X.env=pure false:=by rfl):PS X (.Expr e pos) (tDrop te):=by
 intro pins s σ H D I h
 exact wpAny_Expr_any (thn (he pins s σ H _ I h) λv s1 ⟨x,H1,I1,r1,q1⟩=>⟨σ,H1,I1,q1⟩) I.quiet hs
def tRet (te:TE):TS:=λD σ H=>te σ H D.rt
theorem qo (he:PE X e te):PS X (.Return (some e) pos) (tRet te):=by
 intro pins s σ H D I h
 exact wpAny_Return_some (thn (he pins s σ H _ I h) λv s1 ⟨x,H1,I1,r1,q1⟩=>⟨x,σ,H1,I1,r1,q1⟩)
def tIfS (c:TT)(t u:TS):TS:=λD σ H=>c σ H λb H1=>if b=true then t D σ H1 else u D σ H1
theorem uu {c:Expr}{a b:List Stmt}{tc:TT}(hc:PT X c tc)(ha:PSs X a t)(hb:PSs X b u):PS X (.If c a b pos) (tIfS tc t u):=by
 intro pins s σ H D I h
 refine wpAny_If (thn (hc pins s σ H _ I h) λd s1 ⟨H1,I1,q1⟩=>?_)
 cases d with
 |true=>exact ha pins s1 σ H1 D I1 q1
 |false=>exact hb pins s1 σ H1 D I1 q1
def tNever:TS:=λ_ _ _=>False
theorem KS:PS X st tNever:=λ_ _ _ _ _ _ h=>h.elim
end
abbrev TG:=V->St->Hp->(St->Hp->Prop)->Prop
abbrev TGs:=List V->St->Hp->(St->Hp->Prop)->Prop
def PG (X:Cx)(target:Expr)(t:TG):Prop :=
 ∀(pins:List (Addr×Obj)) (s:Shared) (σ:St) (H:Hp) (v:V) (u:Value) (Q:St->Hp->Prop),Inv X pins σ H s->RelV v u->t v σ H Q ->
  wpAny (model X.prog X.w) X.A (assign target X.env u) (λ_ s'=>∃σ' H',Inv X pins σ' H' s'/\Q σ' H') X.xe s
def PGs (X:Cx)(ts:List Expr)(t:TGs):Prop :=
 ∀(pins:List (Addr×Obj)) (s:Shared) (σ:St) (H:Hp) (vs:List V) (us:List Value) (Q:St->Hp->Prop),Inv X pins σ H s->Vals vs us->t vs σ H Q ->
  wpAny (model X.prog X.w) X.A (assignInOrder ((assignEach ts X.env).map (·.2)) us) (λ_ s'=>∃σ' H',Inv X pins σ' H' s'/\Q σ' H') X.xe s
abbrev TSet:=V->V->V->Hp->(Hp->Prop)->Prop
def PSet (X:Cx)(t:TSet):Prop :=
 ∀(pins:List (Addr×Obj)) (s:Shared) (σ:St) (H:Hp) (o i v:V) (ov iv u:Value) (Q:Hp->Prop),Inv X pins σ H s->RelV o ov->RelV i iv->RelV v u->t o i v H Q ->
  wpAny (model X.prog X.w) X.A (setItem ov iv u) (λ_ s'=>∃H',Inv X pins σ H' s'/\Q H') X.xe s
section
variable {X:Cx}{pos:Pos}
def gName (i:Nat):TG:=λv σ H Q=>Q (σ.set i (some v)) H
theorem zB {i:Nat}{x:Str}(hN:X.N.Nodup)(hi:X.N[i]?=some x)(hx:Loc X.env.scope x)(hf:X.fn x=true∨X.env.scope.names.lookup x=some .local:=by first | exact .inl rfl | exact .inr rfl | assumption):PG X (.Name x pos) (gName i):=by
 intro pins s σ H v u Q I r h
 exact wpAny_assign_Name (qg I hN hi hx r (λs' I'=>⟨_,H,I',h⟩) hf)
def gNil:TGs:=λvs σ H Q=>vs=[]/\Q σ H
def gCons (t:TG)(u:TGs):TGs:=λvs σ H Q=>∃v r,vs=v::r/\t v σ H λσ' H'=>u r σ' H' Q
theorem xX:PGs X [] gNil:=by
 intro pins s σ H vs us Q I r h
 obtain⟨e,h⟩:=h
 subst e
 cases r
 exact assignInOrder_nil ⟨σ,H,I,h⟩
theorem yk {e:Expr}{es:List Expr}{t:TG}{u:TGs}(h1:PG X e t)(h2:PGs X es u)
  (hs:(assignEach (e::es) X.env).map (·.2)=assign e X.env::(assignEach es X.env).map (·.2):=by rfl):PGs X (e::es) (gCons t u):=by
 intro pins s σ H vs us Q I r h
 obtain⟨v,vr,e1,h⟩:=h
 subst e1
 cases r with
 |cons r rr=>
  rw[hs]
  refine assignInOrder_cons (thn (h1 pins s σ H _ _ _ I r h) λ_ s1 ⟨σ1,H1,I1,q1⟩=>?_)
  exact h2 pins s1 σ1 H1 _ _ Q I1 rr q1
def gTup (K:PySem.W.Frag)(n:Nat)(t:TGs):TG:=λv σ H Q=>∃a xs,v=.ref a/\SqT K H a xs/\xs.length=n/\t xs σ H Q
theorem we {es:List Expr}{k:Nat}{t:TGs}{n:Nat}(hc:X.calm=true)(h:PGs X es t)
  (hn:(assignEach es X.env).length=n:=by rfl) (hst:(assignEach es X.env).findIdx? (·.1)=none:=by rfl):PG X (.Tuple es k pos) (gTup X.K n t):=by
 intro pins s σ H v u Q I r hw
 obtain⟨a,xs,e1,hq,hl,hw⟩:=hw
 subst e1
 cases r
 obtain⟨its,rv,ht,hz⟩:=I.tuple hq
 refine assign_Tuple_tuple (I.ok.hd hc) ht (by simp[hn,<-hl,rv.length]) hst λh' hx=>?_
 have I1:Inv X pins σ H { s with heap:=h' }:=I.kept (t':=s.toks) λb o e=>hx b o (Nat.ne_of_lt (Heap.lt_size e)) e
 exact h pins _ σ H xs _ Q I1 (by simpa using rv) hw
def gSub (to ti:TE)(t:TSet):TG:=λv σ H Q=>to σ H λo H1=>ti σ H1 λi H2=>t o i v H2 λH3=>Q σ H3
theorem Wy {o i:Expr}{to ti:TE}{t:TSet}(ho:PE X o to)(hi:PE X i ti)(hs:PSet X t)
  (ha:∀v,assign (.Subscript o i pos) X.env v=(do
   let ov <-holding [v] (eval o X.env)
   let iv <-holding [v,ov] (eval i X.env)
   standAt pos
   holding [v,ov,iv] (setItem ov iv v)
   release [v,ov,iv] []):=by intro _;rfl):PG X (.Subscript o i pos) (gSub to ti t):=by
 intro pins s σ H v u Q I r h
 rw[ha]
 refine wpAny_bind (wpAny_holding (thn (ho pins s σ H _ I h) λov s1 ⟨x,H1,I1,r1,q1⟩=>?_))
 refine wpAny_bind (wpAny_holding (thn (hi pins s1 σ H1 _ I1 q1) λiv s2 ⟨y,H2,I2,r2,q2⟩=>?_))
 refine wpAny_bind (wpAny_standAt (wpAny_bind (wpAny_holding (thn (hs pins s2 σ H2 x y v ov iv u _ I2 r1 r2 r q2) λ_ s3 ⟨H3,I3,q3⟩=>?_))))
 exact wpAny_release ⟨σ,H3,I3,q3⟩
def tAsg (te:TE)(g:TG):TS:=λD σ H=>te σ H λx H1=>g x σ H1 D.nx
theorem YV {tg e:Expr}{te:TE}{g:TG}(he:PE X e te)(hg:PG X tg g)(hs:swapsWithSole [tg] e pos.line X.env=pure false:=by rfl)(hw:swappedStores [tg] e X.env=pure none:=by rfl)
  (h1:(assignEach [tg] X.env).map (·.2)=[assign tg X.env]:=by rfl):PS X (.Assign [tg] e pos) (tAsg te g):=by
 intro pins s σ H D I h
 refine wpAny_Assign_stores (thn (he pins s σ H _ I h) λv s1 ⟨x,H1,I1,r1,q1⟩=>?_) hs hw
 rw[h1]
 exact thn (hg pins s1 σ H1 x v _ I1 r1 q1) λ_ s2 q=>q
theorem qA {i:Nat}{x:Str}{e:Expr}{te:TE}{pos':Pos}(hN:X.N.Nodup)(hi:X.N[i]?=some x)(hx:Loc X.env.scope x)(he:PE X e te)(hs:swapsWith e (some (.Name x pos')) pos.line X.env=pure false:=by rfl)(hf:X.fn x=true∨X.env.scope.names.lookup x=some .local:=by first | exact .inl rfl | exact .inr rfl | assumption) :
  PS X (.Assign [.Name x pos'] e pos) (tAsg te (gName i)):=by
 intro pins s σ H D I h
 refine wpAny_Assign_Name (thn (he pins s σ H _ I h) λv s1 ⟨y,H1,I1,r1,q1⟩=>?_) hs
 exact qg I1 hN hi hx r1 (λs2 I2=>⟨_,H1,I2,q1⟩) hf
end
section
variable {X:Cx}{pos:Pos}
def tWhile (c:TT)(tb:TS):TS:=λD σ H=>∃W:Nat->St->Hp->Prop,(∃m,W m σ H)/\∀m σ H,W m σ H ->
 c σ H λb H1=>if b=true then ∃N:St->Hp->Prop,(∀σ' H',N σ' H'->∃m',m' < m/\W m' σ' H')/\tb { D with nx:=N,ct:=N,bk:=D.nx } σ H1 else D.nx σ H1
theorem K3 {c:Expr}{body:List Stmt}{tc:TT}{tb:TS}(hp:PassesOwn (model X.prog X.w) X.A X.env X.xe)(hc:PT X c tc)(hb:PSs X body tb):PS X (.While c body [] pos) (tWhile tc tb):=by
 intro pins s σ H D I h
 obtain⟨W,⟨m0,w0⟩,turn⟩:=h
 refine wpAny_While (codeAny_whileLoop (λn s'=>∃σ' H',Inv X pins σ' H' s'/\W n σ' H') ?_ m0 ⟨σ,H,I,w0⟩)
 rintro n s1 ⟨σ1,H1,I1,w1⟩
 refine wpAny_passesOwn hp (thn (hc pins s1 σ1 H1 _ I1 (turn n σ1 H1 w1)) λb s2 ⟨H2,I2,q2⟩=>?_)
 cases b with
 |true=>
  obtain⟨N,hN,q2⟩:=q2
  rw[if_pos rfl]
  refine wpAny_passesOwn hp (thn (hb pins s2 σ1 H2 _ I2 q2) λf s3 q3=>?_)
  cases f with
  |next=>
   obtain⟨σ3,H3,I3,n3⟩:=q3
   obtain⟨m',hm,w3⟩:=hN σ3 H3 n3
   exact⟨m',hm,σ3,H3,I3,w3⟩
  |cont=>
   obtain⟨σ3,H3,I3,n3⟩:=q3
   obtain⟨m',hm,w3⟩:=hN σ3 H3 n3
   exact⟨m',hm,σ3,H3,I3,w3⟩
  |brk=>exact q3
  |ret v=>exact q3
 |false=>
  rw[if_neg Bool.false_ne_true]
  exact wpAny_execs_nil ⟨σ1,H2,I2,q2⟩
end
structure It where
 go:Nat->Hp->Prop
 yld:Nat->Hp->V->Hp->Prop
 stop:Nat->Hp->Prop
def FpOk (X:Cx)(pins:List (Addr×Obj))(H:Hp)(b:Addr):Prop :=
 H b=none/\b≠X.env.locals/\b∉X.fs/\(b∈X.ex∨X.s₀.heap.objs.size<=b)/\(∀x c,X.env.cells.lookup x=some c->c≠b)/\∀p∈X.pn++pins,p.1≠b
theorem Inv.fpOk {X:Cx}{pins:List (Addr×Obj)}{σ:St}{H H':Hp}{s:Shared}{b:Addr}(I:Inv X pins σ H s)(hb:s.heap.objs.size<=b)(hn:H' b=none):FpOk X pins H' b:=by
 refine⟨hn,Nat.ne_of_gt (Nat.lt_of_lt_of_le I.lt hb),I.nofs hb,.inr (Nat.le_trans I.sz hb),λx c e z=>?_,λp hp z=>?_⟩
 ·obtain⟨v,q⟩:=I.cell x c e
  exact absurd (Nat.lt_of_lt_of_le q.lt (by rw[z];exact hb)) (Nat.lt_irrefl _)
 ·exact absurd (Nat.lt_of_lt_of_le (Heap.lt_size (I.pin p hp).1) (by rw[z];exact hb)) (Nat.lt_irrefl _)
structure Turn (P:Program)(w:World)(K:PySem.W.Frag)(tg:Expr)(J:It)(fp:List Addr)(it:Addr)(tn:Nat->Heap->Prop):Prop where
 mem:it∈fp
 obj:∀i h,tn i h->∀b∈fp,∃o,h.get? b=some o/\∀v,o.data≠.cell v
 keep:∀i h h',tn i h->(∀b∈fp,∀o,h.get? b=some o->h'.get? b=some o)->tn i h'
 item:∀(X:Cx),X.prog=P->X.w=w->X.K=K->X.calm=true->∀(i:Nat) (pins:List (Addr×Obj)) (s:Shared) (σ:St) (H:Hp) (E:Value->Shared->Prop),Inv X pins σ H s->(∀b∈fp,FpOk X pins H b)->tn i s.heap->J.go i H ->
  wpAny (model P w) X.A (pyNext (.ref it)) (λr s1=>∃u,r=some u /\
   wpAny (model P w) X.A (letOwnedTupleGo tg (.ref it) u) (λ_ s2=>∃x H',Inv X pins σ H' s2/\RelV x u/\J.yld i H x H'/\tn (i+1) s2.heap/\∀b∈fp,H' b=none) E s1) E s
 done:∀(X:Cx),X.prog=P->X.w=w->X.K=K->X.calm=true->∀(i:Nat) (pins:List (Addr×Obj)) (s:Shared) (σ:St) (H:Hp) (E:Value->Shared->Prop),Inv X pins σ H s->(∀b∈fp,FpOk X pins H b)->tn i s.heap->J.stop i H ->
  wpAny (model P w) X.A (pyNext (.ref it)) (λr s1=>r=none/\Inv X pins σ H s1) E s
 self:∀(A:Around) (i:Nat) (s:Shared) (Q:Value->Shared->Prop) (E:Value->Shared->Prop),tn i s.heap->Q (.ref it) s->wpAny (model P w) A (pyIter (.ref it)) Q E s
abbrev TI:=St->Hp->(It->Hp->Prop)->Prop
def PIE (X:Cx)(pins:List (Addr×Obj))(σ:St)(tg:Expr)(R:It->Hp->Prop)(itv:Value)(s2:Shared):Prop :=
 ∃(it:Addr) (fp:List Addr) (tn:Nat->Heap->Prop) (J:It) (H':Hp),itv=.ref it/\Inv X pins σ H' s2/\Turn X.prog X.w X.K tg J fp it tn/\tn 0 s2.heap/\(∀b∈fp,FpOk X pins H' b)/\R J H'
def PI (X:Cx)(tg iter:Expr)(wi:TI):Prop :=
 ∀(pins:List (Addr×Obj)) (s:Shared) (σ:St) (H:Hp) (R:It->Hp->Prop),Inv X pins σ H s->wi σ H R ->
  wpAny (model X.prog X.w) X.A (eval iter X.env) (λv s1=>wpAny (model X.prog X.w) X.A (pyIter v) (PIE X pins σ tg R) X.xe s1) X.xe s
theorem qv {M:Model}{A:Around}{E:Value->Shared->Prop}{s:Shared}{tg:Expr}{it:Addr}{u:Value}{o:Obj}{n:String}{vs:Array Value}{Q:Unit->Shared->Prop}(ho:s.heap.get? it=some o)(hc:o.cls=.type n)(hd:o.data=.fields vs)
    (hn:["enumerate","zip","dict_itemiterator","dict_reverseitemiterator","odict_iterator","itertools.zip_longest","itertools.pairwise"].contains n=false) (hQ:Q () s):wpAny M A (letOwnedTupleGo tg (.ref it) u) Q E s:=by
  unfold letOwnedTupleGo
  cases tg<;>first
    |exact wpAny_pure hQ
    | (cases u<;>first
        |exact wpAny_pure hQ
        | (refine wpAny_bind (wpAny_load ho ?_)
           rw[hc,hd]
           show wpAny M A (if (["enumerate","zip","dict_itemiterator","dict_reverseitemiterator","odict_iterator","itertools.zip_longest","itertools.pairwise"].contains n&&vs[0]?==some (rawInt _))=true then _ else _) Q E s
           rw[if_neg (by intro h;rw[hn,Bool.false_and] at h;cases h)]
           exact wpAny_pure hQ))
def Itl (K:PySem.W.Frag)(a:Addr):It :=
 ⟨λi H=>∃xs x,SqL K H a xs/\xs[i]?=some x,λi H x H'=>H'=H/\∀xs,SqL K H a xs->xs[i]?=some x,λi H=>∃xs,SqL K H a xs/\xs.length<=i⟩
def Itr (lo:Int)(n:Nat):It:=⟨λi _=>i < n,λi H x H'=>H'=H/\x=.int (lo+i),λi _=>n<=i⟩
theorem QZ {P:Program}{w:World}{K:PySem.W.Frag}{tg:Expr}(a it:Addr):Turn P w K tg (Itl K a) [it] it (λi h=>h.IsListIter it a i) where
 mem:=by simp
 obj:=λi h st b hb=>by
  have e:b=it:=by simpa using hb
  subst e
  obtain⟨o,e,c,d⟩:=st
  exact⟨o,e,λv z=>by rw[d] at z;cases z⟩
 keep:=λi h h' st k=>st.at λo e=>k it (by simp) o e
 item:=by
  intro X hP hw hK hc i pins s σ H E I hf st hg
  subst hP hw hK
  obtain⟨xs,x,hq,hx⟩:=hg
  obtain⟨its,rv,p,hz⟩:=I.list hq
  obtain⟨u,hu,ru⟩:=rv.get hx
  obtain⟨f0,f1,f2,f3,f4,f5⟩:=hf it (by simp)
  refine wpAny_pyNext_list_item st p.isList (x:=u) (by simpa using hu) λh' st' sb=>?_
  have I1:Inv X pins σ H { s with heap:=h' }:=I.turned (t':=s.toks) (λb o hb e=>(sb.2 b hb).trans e) f0 f1 f3 f4 f5
  obtain⟨o,e,c,d⟩:=id st'
  exact⟨u,rfl,qv (s:={ s with heap:=h' }) e c d (by decide) ⟨x,H,I1,ru,⟨rfl,λys hy=>by rw[I.list_inj hy hq];exact hx⟩,st',λb hb=>(hf b hb).1⟩⟩
 done:=by
  intro X hP hw hK hc i pins s σ H E I hf st hg
  subst hP hw hK
  obtain⟨xs,hq,hx⟩:=hg
  obtain⟨its,rv,p,hz⟩:=I.list hq
  obtain⟨f0,f1,f2,f3,f4,f5⟩:=hf it (by simp)
  have hl:=rv.length
  exact wpAny_pyNext_list_end (I.ok.hd hc) st p.isList (by simp;omega) λh' eb=>⟨rfl,I.turned (t':=s.toks) (λb o hb e=>eb b o hb e) f0 f1 f3 f4 f5⟩
 self:=λ_ _ _ _ _ st h=>wpAny_pyIter_listiter st h
theorem YE {P:Program}{w:World}{K:PySem.W.Frag}{tg:Expr}(it:Addr)(lo:Int)(n:Nat):Turn P w K tg (Itr lo n) [it] it (λi h=>IsRangeIter h it (lo+(i:Nat) * 1) ((n:Int) - (i:Nat)) 1) where
 mem:=by simp
 obj:=λi h st b hb=>by
  have e:b=it:=by simpa using hb
  subst e
  exact⟨_,st,λv z=>by
   have z':Data.fields _=Data.cell v:=z
   cases z'⟩
 keep:=λi h h' st k=>k it (by simp) _ st
 item:=by
  intro X hP hw hK hc i pins s σ H E I hf st hg
  subst hP hw hK
  obtain⟨f0,f1,f2,f3,f4,f5⟩:=hf it (by simp)
  have W:=Walks.range (prog:=X.prog) (w:=X.w) (I.ok.hd hc) it lo 1 n
  refine W.item i s _ _ hg st λv h' tk hv st' kk=>?_
  obtain⟨t,rfl⟩:=hv
  have I1:Inv X pins σ H { s with heap:=h',toks:=tk }:=I.turned (λb o hb e=>kk b o (by simpa using hb) e) f0 f1 f3 f4 f5
  refine⟨_,rfl,qv (s:={ s with heap:=h',toks:=tk }) (n := "range_iterator") st' rfl rfl (by decide) ⟨.int (lo+i),H,I1,⟨t,?_⟩,⟨rfl,rfl⟩,st',λb hb=>(hf b hb).1⟩⟩
  rw[Int.mul_one]
 done:=by
  intro X hP hw hK hc i pins s σ H E I hf st hg
  subst hP hw hK
  obtain⟨f0,f1,f2,f3,f4,f5⟩:=hf it (by simp)
  exact wpAny_pyNext_range_end (I.ok.hd hc) st (by have:n<=i:=hg;omega) λh' eb=>⟨rfl,I.turned (t':=s.toks) (λb o hb e=>eb b o hb e) f0 f1 f3 f4 f5⟩
 self:=λ_ _ _ _ _ st h=>wpAny_pyIter_rangeiter st h
section
variable {X:Cx}{tg:Expr}
def iList (K:PySem.W.Frag)(tl:TE):TI:=λσ H R=>tl σ H λx H1=>∃a,x=.ref a/\(∃xs,SqL K H1 a xs)/\R (Itl K a) H1
theorem WS {l:Expr}{tl:TE}(hl:PE X l tl):PI X tg l (iList X.K tl):=by
 intro pins s σ H R I h
 refine thn (hl pins s σ H _ I h) λv s1 ⟨x,H1,I1,r1,q1⟩=>?_
 obtain⟨a,e,⟨xs,hq⟩,q⟩:=q1
 subst e
 cases r1
 obtain⟨its,rv,p,hz⟩:=I1.list hq
 refine wpAny_pyIter_list p.isList ?_
 refine⟨s1.heap.objs.size,[s1.heap.objs.size],_,_,H1,rfl,I1.kept (t':=s1.toks) λb o e=>Heap.get?_push_of_some _ e,QZ a _,⟨_,Heap.get?_push_size _ rfl,rfl,rfl⟩,λb hb=>?_,q⟩
 have e:b=s1.heap.objs.size:=by simpa using hb
 subst e
 exact I1.fpOk (Nat.le_refl _) (I1.hok.fresh (Nat.le_refl _))
theorem KG {pins:List (Addr×Obj)}{σ:St}{H:Hp}{s:Shared}{R:It->Hp->Prop}{E:Value->Shared->Prop}{lo hi:Int}{t u v:Tok}{tk:Nat}(I:Inv X pins σ H s)(h1:-(2 ^ 62)<=lo)(h2:lo < 2 ^ 62)(h3:-(2 ^ 62)<=hi)(h4:hi < 2 ^ 62)
  (q:R (Itr lo (hi - lo).toNat) H):wpAny (model X.prog X.w) X.A (pyIter (.ref s.heap.objs.size)) (PIE X pins σ tg R) E { s with heap:=s.heap.push { cls:=.type "range",data:=.fields #[.int lo t,.int hi u,.int 1 v] },toks:=tk }:=by
 refine wpAny_pyIter_range (IsRange.new ..) (small_one h1 h2 h3 h4) ?_
 have I1:Inv X pins σ H { s with heap:=s.heap.push { cls:=.type "range",data:=.fields #[.int lo t,.int hi u,.int 1 v] },toks:=tk }:=I.kept λb o e=>Heap.get?_push_of_some _ e
 refine⟨(s.heap.push { cls:=.type "range",data:=.fields #[.int lo t,.int hi u,.int 1 v] }).objs.size,[(s.heap.push { cls:=.type "range",data:=.fields #[.int lo t,.int hi u,.int 1 v] }).objs.size],_,_,H,rfl,
  I1.kept (t':=tk) λb o e=>Heap.get?_push_of_some _ e,YE _ lo (hi - lo).toNat,?_,λb hb=>?_,q⟩
 ·have e1:lo+((0:Nat):Int) * 1=lo:=by simp
  have e2:(((hi - lo).toNat:Nat):Int) - ((0:Nat):Int)=Builtin.Range.rangeSize lo hi 1:=by rw[rangeSize_one];split<;>omega
  show IsRangeIter _ _ (lo+((0:Nat):Int) * 1) ((((hi - lo).toNat:Nat):Int) - ((0:Nat):Int)) 1
  rw[e1,e2]
  exact Heap.get?_push_size _ rfl
 ·have e:b=(s.heap.push { cls:=.type "range",data:=.fields #[.int lo t,.int hi u,.int 1 v] }).objs.size:=by simpa using hb
  subst e
  exact I1.fpOk (Nat.le_refl _) (I1.hok.fresh (Nat.le_refl _))
def iRng1 (ta:TA):TI:=λσ H R=>ta σ H λvs H1=>∃j:Int,vs=[.int j]/\-(2 ^ 62)<=j/\j < 2 ^ 62/\R (Itr 0 j.toNat) H1
theorem Jo {a:Expr}{ta:TA}{p pos:Pos}(hg:Gl X "range") (hm:X.mg "range" = none) (ha:PA X [a] ta) (hs:starEach [a] X.env=[(false,eval a X.env)]:=by rfl):PI X tg (.Call (.Name "range" p) [a] [] pos) (iRng1 ta):=by
 intro pins s σ H R I h
 refine Call_ (vg I hg hm boot_range (PyProof.Rows.callWith_type1 (thn (ha pos pins s σ H _ I h) λus s1 ⟨vs,H1,I1,r1,q1⟩=>?_) hs rfl))
 obtain⟨j,e,q1,q2,q⟩:=q1
 subst e
 cases r1 with
 |cons r rr=>
  cases rr
  obtain⟨t,rfl⟩:=r
  exact call_range_1 (KG I1 (by omega) (by omega) q1 q2 (by simpa using q))
def tFor (wi:TI)(g:TG)(tb:TS):TS:=λD σ H=>wi σ H λJ H1=>∃W:Nat->Nat->St->Hp->Prop,(∃m,W 0 m σ H1)/\∀i m σ H,W i m σ H ->
 (J.stop i H/\D.nx σ H)∨(J.go i H/\∃N:St->Hp->Prop,(∀σ' H',N σ' H'->∃m',m' < m/\W (i+1) m' σ' H')/\∀x H',J.yld i H x H'->g x σ H' λσ2 H2=>tb { D with nx:=N,ct:=N,bk:=D.nx } σ2 H2)
def pinsAt (fp:List Addr)(h:Heap):List (Addr×Obj):=fp.filterMap λb=>(h.get? b).map λo=>(b,o)
theorem jm {fp:List Addr}{h:Heap}{b:Addr}{o:Obj}(hb:b∈fp)(e:h.get? b=some o):(b,o)∈pinsAt fp h:=List.mem_filterMap.mpr ⟨b,hb,by rw[e];rfl⟩
theorem Yx {fp:List Addr}{h:Heap}{p:Addr×Obj}(hp:p∈pinsAt fp h):p.1∈fp/\h.get? p.1=some p.2:=by
 obtain⟨b,hb,e⟩:=List.mem_filterMap.mp hp
 cases q:h.get? b with
 |none=>rw[q] at e;cases e
 |some o=>
  rw[q] at e
  have e':(b,o)=p:=Option.some.inj e
  subst e'
  exact⟨hb,q⟩
theorem Inv.pinned {pins:List (Addr×Obj)}{σ:St}{H:Hp}{s:Shared}{fp:List Addr}(I:Inv X pins σ H s)(hf:∀b∈fp,FpOk X pins H b)(ho:∀b∈fp,∃o,s.heap.get? b=some o/\∀v,o.data≠.cell v):Inv X (pins++pinsAt fp s.heap) σ H s :=
 I.pins_of λp hp=>(List.mem_append.mp hp).elim (λz=>I.pin p (List.mem_append_right _ z)) λz=>by
  obtain⟨hb,e⟩:=Yx z
  obtain⟨f0,f1,f2,_⟩:=hf p.1 hb
  obtain⟨o,e',d⟩:=ho p.1 hb
  rw[e] at e';cases e'
  exact⟨e,f0,f1,f2,d⟩
theorem Inv.unpinned {pins pl:List (Addr×Obj)}{σ:St}{H:Hp}{s:Shared}(I:Inv X (pins++pl) σ H s):Inv X pins σ H s:=I.pins_of λp hp=>I.pin p (List.mem_append_right _ (List.mem_append_left _ hp))
theorem KA {iter:Expr}{body:List Stmt}{wi:TI}{g:TG}{tb:TS}{pos:Pos}(hp:PassesOwn (model X.prog X.w) X.A X.env X.xe)(hc:X.calm=true)(hi:PI X tg iter wi)(hg:PG X tg g)(hb:PSs X body tb)
  (hs:∀x,foldedSetIterable iter X.env x=pure x:=by intro _;rfl):PS X (.For tg iter body [] pos) (tFor wi g tb):=by
 intro pins s σ H D I h
 refine wpAny_For (thn (hi pins s σ H _ I h) λv s1 h1=>thn h1 λitv s2 h2=>?_) hs
 obtain⟨it,fp,tn,J,H2,e,I2,T,st2,f2,W,⟨m0,w0⟩,turn⟩:=h2
 subst e
 have stat:∀ {H':Hp},(∀b∈fp,H' b=none)->∀b∈fp,FpOk X pins H' b:=λhn b hb=>⟨hn b hb,(f2 b hb).2⟩
 refine codeAny_forLoop_any (λn s'=>∃i σ' H',Inv X pins σ' H' s'/\tn i s'.heap/\(∀b∈fp,H' b=none)/\W i n σ' H') ?_ m0 ⟨0,σ,H2,I2,st2,λb hb=>(f2 b hb).1,w0⟩
 rintro n s3 ⟨i,σ3,H3,I3,st3,fr3,w3⟩
 rcases turn i n σ3 H3 w3 with⟨stop,qn⟩ | ⟨go,N,hN,step⟩
 ·refine wpAny_passesOwn hp (thn (T.done X rfl rfl rfl hc i pins s3 σ3 H3 X.xe I3 (stat fr3) st3 stop) λr s4 ⟨hr,I4⟩=>?_)
  subst hr
  exact wpAny_execs_nil ⟨σ3,H3,I4,qn⟩
 ·refine wpAny_passesOwn hp (thn (T.item X rfl rfl rfl hc i pins s3 σ3 H3 X.xe I3 (stat fr3) st3 go) λr s4 ⟨u,hr,h4⟩=>?_)
  subst hr
  refine wpAny_passesOwn hp (thn h4 λ_ s5 ⟨x,H5,I5,r5,y5,st5,fr5⟩=>?_)
  have I5':=I5.pinned (stat fr5) (T.obj _ _ st5)
  refine wpAny_passesOwn hp (thn (hg _ s5 σ3 H5 x u _ I5' r5 (step x H5 y5)) λ_ s6 ⟨σ6,H6,I6,q6⟩=>?_)
  refine wpAny_passesOwn hp (thn (hb _ s6 σ6 H6 _ I6 q6) λf s7 q7=>?_)
  have again:∀ {σ7:St} {H7:Hp},Inv X (pins++pinsAt fp s5.heap) σ7 H7 s7->N σ7 H7->∃m,m < n/\∃i σ' H',Inv X pins σ' H' s7/\tn i s7.heap/\(∀b∈fp,H' b=none)/\W i m σ' H':=fun {σ7 H7} I7 n7=>by
   obtain⟨m',hm,w7⟩:=hN σ7 H7 n7
   refine⟨m',hm,i+1,σ7,H7,I7.unpinned,T.keep _ _ _ st5 λb hb o e=>(I7.pin (b,o) (List.mem_append_right _ (List.mem_append_right _ (jm hb e)))).1,λb hb=>?_,w7⟩
   obtain⟨o,e,d⟩:=T.obj _ _ st5 b hb
   exact (I7.pin (b,o) (List.mem_append_right _ (List.mem_append_right _ (jm hb e)))).2.1
  cases f with
  |next=>obtain⟨σ7,H7,I7,n7⟩:=q7;exact again I7 n7
  |cont=>obtain⟨σ7,H7,I7,n7⟩:=q7;exact again I7 n7
  |brk=>obtain⟨σ7,H7,I7,q7⟩:=q7;exact⟨σ7,H7,I7.unpinned,q7⟩
  |ret v=>obtain⟨x7,σ7,H7,I7,r7,q7⟩:=q7;exact⟨x7,σ7,H7,I7.unpinned,r7,q7⟩
end
abbrev R2:=V->V->Hp->VK->Prop
def OpR (X:Cx)(f:Value->Value->Sem Value)(r:R2):Prop :=
 ∀(pins:List (Addr×Obj)) (s:Shared) (σ:St) (H:Hp) (x y:V) (v u:Value) (Q:VK),Inv X pins σ H s->RelV x v->RelV y u->r x y H Q ->
  wpAny (model X.prog X.w) X.A (f v u) (EP X pins σ Q) X.xe s
def UnR (X:Cx)(f:Value->Sem Value)(r:V->Hp->VK->Prop):Prop :=
 ∀(pins:List (Addr×Obj)) (s:Shared) (σ:St) (H:Hp) (x:V) (v:Value) (Q:VK),Inv X pins σ H s->RelV x v->r x H Q ->
  wpAny (model X.prog X.w) X.A (f v) (EP X pins σ Q) X.xe s
def CallR (X:Cx)(f:Value)(r:List V->Hp->VK->Prop):Prop :=
 ∀(pins:List (Addr×Obj)) (s:Shared) (σ:St) (H:Hp) (xs:List V) (us:List Value) (Q:VK),Inv X pins σ H s->Vals xs us->r xs H Q ->
  wpAny (model X.prog X.w) X.A (call f us) (EP X pins σ Q) X.xe s
def TruR (X:Cx)(r:V->Hp->(Bool->Hp->Prop)->Prop):Prop :=
 ∀(pins:List (Addr×Obj)) (s:Shared) (σ:St) (H:Hp) (x:V) (v:Value) (Q:Bool->Hp->Prop),Inv X pins σ H s->RelV x v->r x H Q ->
  wpAny (model X.prog X.w) X.A (truthy v) (TP X pins σ Q) X.xe s
def tOp (r:R2)(ta tb:TE):TE:=λσ H Q=>ta σ H λx H1=>tb σ H1 λy H2=>r x y H2 Q
def tUn (r:V->Hp->VK->Prop)(ta:TE):TE:=λσ H Q=>ta σ H λx H1=>r x H1 Q
def rI (C:Int->Int->Prop)(g:Int->Int->V):R2:=λx y H Q=>∃i j,x=.int i/\y=.int j/\C i j/\Q (g i j) H
def rI0 (g:Int->Int->V):R2:=λx y H Q=>∃i j,x=.int i/\y=.int j/\Q (g i j) H
def rU (g:Int->V):V->Hp->VK->Prop:=λx H Q=>∃i,x=.int i/\Q (g i) H
section
variable {X:Cx}{a b c:Expr}{ta tb tc:TE}{pos:Pos}
theorem binT (ha:PE X a ta)(hb:PE X b tb){pins:List (Addr×Obj)}{s:Shared}{σ:St}{H:Hp}{R:V->V->Hp->Prop}(I:Inv X pins σ H s)
  (h:ta σ H λx H1=>tb σ H1 λy H2=>R x y H2) {Q:Value->Shared->Prop} {f:Value->Value->Sem Value}
  (hf:∀v u s2 x y H2,Inv X pins σ H2 s2->RelV x v->RelV y u->R x y H2->wpAny (model X.prog X.w) X.A (f v u) Q X.xe s2) :
  wpAny (model X.prog X.w) X.A (eval a X.env) (λv s₁=>wpAny (model X.prog X.w) X.A (eval b X.env) (λu s₂=>wpAny (model X.prog X.w) X.A (f v u) Q X.xe s₂) X.xe s₁) X.xe s:=by
 refine thn (ha pins s σ H _ I h) λv s1 ⟨x,H1,I1,r1,q1⟩=>?_
 refine thn (hb pins s1 σ H1 _ I1 q1) λu s2 ⟨y,H2,I2,r2,q2⟩=>?_
 exact hf v u s2 x y H2 I2 r1 r2 q2
theorem ZP {op:Operator}{r:R2}(ho:OpR X (binaryOp op) r)(ha:PE X a ta)(hb:PE X b tb):PE X (.BinOp a op b pos) (tOp r ta tb):=by
 intro pins s σ H Q I h
 exact wpAny_BinOp (binT ha hb I h λv u s2 x y H2 I2 rx ry q=>ho pins s2 σ H2 x y v u Q I2 rx ry q)
theorem Qx {op:UnaryOp}{r:V->Hp->VK->Prop}(ho:UnR X (unaryOp op) r)(ha:PE X a ta):PE X (.UnaryOp op a pos) (tUn r ta):=by
 intro pins s σ H Q I h
 exact UnaryOp_ (thn (ha pins s σ H _ I h) λv s1 ⟨x,H1,I1,r1,q1⟩=>ho pins s1 σ H1 x v Q I1 r1 q1)
theorem opI {f:Value->Value->Sem Value}{C:Int->Int->Prop}{g:Int->Int->Int}
  (rule:∀(i j:Int) (t u:Tok) (s:Shared) (Q:Value->Shared->Prop) (E:Value->Shared->Prop),C i j->Q (.int (g i j) s.toks) { s with toks:=s.toks+1 }->wpAny (model X.prog X.w) X.A (f (.int i t) (.int j u)) Q E s) :
  OpR X f (rI C λi j=>.int (g i j)):=by
 intro pins s σ H x y v u Q I rx ry h
 obtain⟨i,j,rfl,rfl,hc,q⟩:=h
 obtain⟨t,rfl⟩:=rx
 obtain⟨t',rfl⟩:=ry
 exact rule i j t t' s _ _ hc ⟨.int (g i j),H,I.tok _,⟨_,rfl⟩,q⟩
theorem opI0 {f:Value->Value->Sem Value}{g:Int->Int->Int}
  (rule:∀(i j:Int) (t u:Tok) (s:Shared) (Q:Value->Shared->Prop) (E:Value->Shared->Prop),Q (.int (g i j) s.toks) { s with toks:=s.toks+1 }->wpAny (model X.prog X.w) X.A (f (.int i t) (.int j u)) Q E s) :
  OpR X f (rI0 λi j=>.int (g i j)):=by
 intro pins s σ H x y v u Q I rx ry h
 obtain⟨i,j,rfl,rfl,q⟩:=h
 obtain⟨t,rfl⟩:=rx
 obtain⟨t',rfl⟩:=ry
 exact rule i j t t' s _ _ ⟨.int (g i j),H,I.tok _,⟨_,rfl⟩,q⟩
theorem opB0 {f:Value->Value->Sem Value}{g:Int->Int->Bool}
  (rule:∀(i j:Int) (t u:Tok) (s:Shared) (Q:Value->Shared->Prop) (E:Value->Shared->Prop),Q (.bool (g i j)) s->wpAny (model X.prog X.w) X.A (f (.int i t) (.int j u)) Q E s) :
  OpR X f (rI0 λi j=>.bl (g i j)):=by
 intro pins s σ H x y v u Q I rx ry h
 obtain⟨i,j,rfl,rfl,q⟩:=h
 obtain⟨t,rfl⟩:=rx
 obtain⟨t',rfl⟩:=ry
 exact rule i j t t' s _ _ ⟨.bl (g i j),H,I,rfl,q⟩
def CDiv (i j:Int):Prop:=0 < j/\j < 1073741824
def CPow (i j:Int):Prop:=0<=j/\j<=1000000/\i.natAbs < 2 ^ 64
def CMul (i j:Int):Prop:=(-(2 ^ 64) < i/\i < 2 ^ 64)∨(-(2 ^ 64) < j/\j < 2 ^ 64)
theorem CMul.ok {i j:Int}(h:CMul i j):IntMulOk i j:=by
 rcases h with⟨h1,h2⟩ | ⟨h1,h2⟩
 ·exact .of_left (intBits_le_64 h1 h2)
 ·exact .of_right (intBits_le_64 h1 h2)
theorem V8 (k:Nat):(0:Int)<=2 ^ k:=by
 rw[two_pow_cast]
 exact Int.natCast_nonneg _
theorem op_add:OpR X (binaryOp .Add) (rI0 λi j=>.int (i+j)):=opI0 λ_ _ _ _ _ _ _ q=>add_int q
theorem Wi:OpR X (binaryOp .Sub) (rI0 λi j=>.int (i - j)):=opI0 λ_ _ _ _ _ _ _ q=>sub_int q
theorem Ve:OpR X (binaryOp .Mult) (rI CMul λi j=>.int (i * j)):=opI λ_ _ _ _ _ _ _ hc q=>mul_int q hc.ok
theorem Ka:OpR X (binaryOp .FloorDiv) (rI CDiv λi j=>.int (i / j)):=opI λi j _ _ _ _ _ hc q=>by
 have h1:(0:Int) < j:=hc.1
 have h2:j < 1073741824:=hc.2
 exact floordiv_int (by omega) (by rw[Int.fdiv_eq_ediv_of_nonneg i (by omega)];exact q) (.inl (PyProof.noPylong_small (by omega)))
theorem VY:OpR X (binaryOp .Mod) (rI (λ_ j=>0 < j) λi j=>.int (i % j)):=opI λi j _ _ _ _ _ hc q=>by
 have h1:(0:Int) < j:=hc
 exact mod_int' (by omega) (by rw[Int.fmod_eq_emod_of_nonneg i (by omega)];exact q)
theorem QO:OpR X (binaryOp .Pow) (rI CPow λi j=>.int (i ^ j.toNat)):=opI λ_ _ _ _ _ _ _ hc q=>pow_int_small hc.1 hc.2.1 hc.2.2 q
theorem QJ:OpR X (binaryOp .RShift) (rI (λ_ j=>0<=j) λi j=>.int (i / 2 ^ j.toNat)):=opI λi j _ _ _ _ _ hc q=>
 rshift_int hc (by rw[Int.fdiv_eq_ediv_of_nonneg i (V8 _)];exact q)
theorem K9:OpR X (binaryOp .BitAnd) (rI0 λi j=>.int (Builtin.bitAnd i j)):=opI0 λ_ _ _ _ _ _ _ q=>and_int q
theorem unI {f:Value->Sem Value}{g:Int->Int}
  (rule:∀(i:Int) (t:Tok) (s:Shared) (Q:Value->Shared->Prop) (E:Value->Shared->Prop),Q (.int (g i) s.toks) { s with toks:=s.toks+1 }->wpAny (model X.prog X.w) X.A (f (.int i t)) Q E s) :
  UnR X f (rU λi=>.int (g i)):=by
 intro pins s σ H x v Q I rx h
 obtain⟨i,rfl,q⟩:=h
 obtain⟨t,rfl⟩:=rx
 exact rule i t s _ _ ⟨.int (g i),H,I.tok _,⟨_,rfl⟩,q⟩
theorem QK:UnR X (unaryOp .USub) (rU λi=>.int (-i)):=unI λ_ _ _ _ _ q=>neg_int q
end
def scal:V->V->Bool
 |.non,.non=>true | .non,.int _=>true | .int _,.non=>true | .non,.bl _=>true | .bl _,.non=>true | .non,.str _=>true | .str _,.non=>true
 |.int _,.int _=>true | .bl _,.bl _=>true | .str _,.str _=>true | .byt _,.byt _=>true
 |.int _,.str _=>true | .str _,.int _=>true | .bl _,.str _=>true | .str _,.bl _=>true
 |_,_=>false
section
variable {X:Cx}{a b c:Expr}{ta tb tc:TE}{pos:Pos}
theorem u4 {pins:List (Addr×Obj)}{σ:St}{H:Hp}{s:Shared}{Q:VK}{k k':Bool}(I:Inv X pins σ H s)(q:Q (.bl k) H)(e:k=k'):EP X pins σ Q (.bool k') s:=by
 subst e
 exact⟨.bl k,H,I,rfl,q⟩
theorem wR:OpR X (compareOp .Lt) (rI0 λi j=>.bl (decide (i < j))):=opB0 λ_ _ _ _ _ _ _ q=>lt_int q
theorem wy:OpR X (compareOp .LtE) (rI0 λi j=>.bl (decide (i<=j))):=opB0 λ_ _ _ _ _ _ _ q=>le_int q
theorem wI:OpR X (compareOp .Gt) (rI0 λi j=>.bl (decide (j < i))):=opB0 λ_ _ _ _ _ _ _ q=>gt_int q
theorem Q8:OpR X (compareOp .In) (λx y H Q=>∃i j,x=.str i/\y=.str j/\Q (.bl (!(Builtin.Str.occurrences j i 0 j.length 1).isEmpty)) H):=by
 intro pins s σ H x y v u Q I rx ry h
 obtain⟨i,j,rfl,rfl,q⟩:=h
 obtain⟨t,rfl⟩:=rx
 obtain⟨t',rfl⟩:=ry
 exact in_str (u4 I q rfl)
theorem KN:OpR X (compareOp .IsNot) (λx y H Q=>y=.non/\Q (.bl (!decide (x=.non))) H):=by
 intro pins s σ H x y v u Q I rx ry h
 obtain⟨rfl,q⟩:=h
 cases ry
 refine isnot_none_gen (u4 I q ?_)
 cases x<;>first
  | (cases rx;rfl)
  | (obtain⟨t,rfl⟩:=rx;rfl)
theorem OpR.or {f:Value->Value->Sem Value}{r r':R2}(h:OpR X f r)(h':OpR X f r'):OpR X f (λx y H Q=>r x y H Q∨r' x y H Q):=by
 intro pins s σ H x y v u Q I rx ry q
 rcases q with q | q
 ·exact h pins s σ H x y v u Q I rx ry q
 ·exact h' pins s σ H x y v u Q I rx ry q
theorem nomark (b:Expr){op:CmpOp}(h:op≠.In:=by decide)(h2:op≠.NotIn:=by decide):behindInMarks op b=false:=by
 have e1:(op==CmpOp.In)=false:=by cases op<;>first | rfl | exact absurd rfl h
 have e2:(op==CmpOp.NotIn)=false:=by cases op<;>first | rfl | exact absurd rfl h2
 cases b<;>simp[behindInMarks,e1,e2]
theorem VR {op:CmpOp}{r:R2}(ho:OpR X (compareOp op) r)(ha:PE X a ta)(hb:PE X b tb)(hm:behindInMarks op b=false):PE X (.Compare a [op] [b] pos) (tOp r ta tb):=by
 intro pins s σ H Q I h
 exact wpAny_Compare1 (binT ha hb I h λv u s2 x y H2 I2 rx ry q=>ho pins s2 σ H2 x y v u Q I2 rx ry q) hm
def tTest (t:TE):TT:=λσ H Q=>t σ H λx H'=>∃k,x=.bl k/\Q k H'
theorem JP {op:CmpOp}{r:R2}(ho:OpR X (compareOp op) r)(ha:PE X a ta)(hb:PE X b tb)(hm:behindInMarks op b=false):PT X (.Compare a [op] [b] pos) (tTest (tOp r ta tb)):=by
 intro pins s σ H Q I h
 refine wpAny_isTrue_Compare1 (thn (ha pins s σ H _ I h) λv s1 ⟨x,H1,I1,r1,q1⟩=>thn (hb pins s1 σ H1 _ I1 q1) λu s2 ⟨y,H2,I2,r2,q2⟩=>
  thn (ho pins s2 σ H2 x y v u _ I2 r1 r2 q2) λc s3 ⟨z,H3,I3,r3,k,e,q3⟩=>?_) hm
 subst e
 cases r3
 exact wpAny_truthy_bool ⟨H3,I3,q3⟩
def tChain (r r':R2)(ta tb tc:TE):TE:=λσ H Q=>ta σ H λx H1=>tb σ H1 λy H2=>r x y H2 λz H3=>∃k,z=.bl k /\
 (if k=true then tc σ H3 λw' H4=>r' y w' H4 Q else Q (.bl false) H3)
theorem QQ {op op':CmpOp}{r r':R2}(ho:OpR X (compareOp op) r)(ho':OpR X (compareOp op') r')(ha:PE X a ta)(hb:PE X b tb)(hc:PE X c tc)
  (hm:lastMarks [op,op'] [b,c]=false:=by with_unfolding_all rfl):PE X (.Compare a [op,op'] [b,c] pos) (tChain r r' ta tb tc):=by
 intro pins s σ H Q I h
 refine Compare_chain (thn (ha pins s σ H _ I h) λv s1 ⟨x,H1,I1,r1,q1⟩=>chain_link (thn (hb pins s1 σ H1 _ I1 q1) λu s2 ⟨y,H2,I2,r2,q2⟩=>
  thn (ho pins s2 σ H2 x y v u _ I2 r1 r2 q2) λd s3 ⟨z,H3,I3,r3,k,e,q3⟩=>?_)) hm
 subst e
 cases r3
 refine wpAny_truthy_bool ?_
 cases k with
 |false=>exact ite_ff ⟨.bl false,H3,I3,rfl,q3⟩
 |true=>exact ite_tt (chain_last (thn (hc pins s3 σ H3 _ I3 q3) λw' s4 ⟨z',H4,I4,r4,q4⟩=>ho' pins s4 σ H4 y z' u w' Q I4 r2 r4 q4))
theorem Kn {op op':CmpOp}{r r':R2}(ho:OpR X (compareOp op) r)(ho':OpR X (compareOp op') r')(ha:PE X a ta)(hb:PE X b tb)(hc:PE X c tc)
  (hm:lastMarks [op,op'] [b,c]=false:=by with_unfolding_all rfl):PT X (.Compare a [op,op'] [b,c] pos) (tTest (tChain r r' ta tb tc)):=by
 intro pins s σ H Q I h
 refine isTrue_chain (thn (ha pins s σ H _ I h) λv s1 ⟨x,H1,I1,r1,q1⟩=>test_link (thn (hb pins s1 σ H1 _ I1 q1) λu s2 ⟨y,H2,I2,r2,q2⟩=>
  thn (ho pins s2 σ H2 x y v u _ I2 r1 r2 q2) λd s3 ⟨z,H3,I3,r3,k,e,q3⟩=>?_)) hm
 subst e
 cases r3
 refine wpAny_truthy_bool ?_
 cases k with
 |false=>
  obtain⟨k',e',q'⟩:=q3
  cases e'
  exact ite_ff ⟨H3,I3,q'⟩
 |true=>
  refine ite_tt (test_last (thn (hc pins s3 σ H3 _ I3 q3) λw' s4 ⟨z',H4,I4,r4,q4⟩=>thn (ho' pins s4 σ H4 y z' u w' _ I4 r2 r4 q4) λd' s5 ⟨z2,H5,I5,r5,k2,e2,q5⟩=>?_))
  subst e2
  cases r5
  exact wpAny_truthy_bool ⟨H5,I5,q5⟩
def TruV (K:PySem.W.Frag)(x:V)(H:Hp)(k:Bool):Prop :=
 match x with
 |.non=>k=false
 |.bl b=>k=b
 |.int i=>k=(i != 0)
 |.str y=>y.length<=sizeLine/\k=((y.length:Int) != 0)
 |.byt y=>y.size<=sizeLine/\k=((y.size:Int) != 0)
 |.ref p=>(∃xs,SqL K H p xs/\k=!xs.isEmpty)∨(∃xs,SqT K H p xs/\k=!xs.isEmpty)∨∃kvs,H p=some (.dK kvs)/\k=!kvs.isEmpty
 |_=>False
theorem WE {κ:Type}{kvs:List (κ×V)}{vs:List (κ×Value)}(r:KV kvs vs):(!vs.isEmpty)=!kvs.isEmpty:=by
 cases r<;>rfl
theorem uq {xs:List V}{its:List Value}(r:Vals xs its):(!its.toArray.isEmpty)=!xs.isEmpty:=by
 cases r<;>simp
theorem line63:(sizeLine:Nat) < 2 ^ 63:=by rw[sizeLine_eq];decide
theorem WA:TruR X (λx H Q=>∃k,TruV X.K x H k/\Q k H):=by
 intro pins s σ H x v Q I rx h
 obtain⟨k,e,q⟩:=h
 have hl:=line63
 have hs:sizeLine=16777216:=sizeLine_eq
 cases x with
 |non=>
  cases rx
  have e':k=false:=e
  subst e'
  exact truthy_none ⟨H,I,q⟩
 |bl b=>
  cases rx
  have e':k=b:=e
  subst e'
  exact wpAny_truthy_bool ⟨H,I,q⟩
 |int i=>
  obtain⟨t,rfl⟩:=rx
  have e':k=(i != 0):=e
  subst e'
  exact PySem.P.truthy_int ⟨H,I,q⟩
 |str y=>
  obtain⟨t,rfl⟩:=rx
  obtain⟨hy,e'⟩:y.length<=sizeLine/\k=((y.length:Int) != 0):=e
  subst e'
  exact PySem.P.truthy_str (by omega) ⟨H,I.tok _,q⟩
 |byt y=>
  obtain⟨t,rfl⟩:=rx
  obtain⟨hy,e'⟩:y.size<=sizeLine/\k=((y.size:Int) != 0):=e
  subst e'
  exact PySem.W.truthy_bytes (by omega) ⟨H,I.tok _,q⟩
 |ref p=>
  cases rx
  have e':(∃xs,SqL X.K H p xs/\k=!xs.isEmpty)∨(∃xs,SqT X.K H p xs/\k=!xs.isEmpty)∨∃kvs,H p=some (.dK kvs)/\k=!kvs.isEmpty:=e
  rcases e' with⟨xs,hx,e'⟩ | ⟨xs,hx,e'⟩ | ⟨kvs,hx,e'⟩
  ·subst e'
   obtain⟨its,r,pl,hz⟩:=I.list hx
   have hlen:=r.length
   exact wpAny_truthy_list pl.isList (by simp only[List.size_toArray];omega) ⟨H,I.tok _,by rw[uq r];exact q⟩
  ·subst e'
   obtain⟨its,r,pl,hz⟩:=I.tuple hx
   have hlen:=r.length
   exact truthy_tuple pl (by simp only[List.size_toArray];omega) ⟨H,I.tok _,by rw[uq r];exact q⟩
  ·subst e'
   obtain⟨hz,hS,vs,r,m⟩:kvs.length<=sizeLine/\(p==sysModules)=false/\∃vs,KV kvs vs/\s.heap.DictOf (zU X.prog X.w) p vs:=I.hok p _ hx
   have hlen:kvs.length=vs.length:=Paired.length r
   exact wpAny_truthy_dict hS m (by omega) ⟨H,I.tok _,by rw[WE r];exact q⟩
 |_=>exact (show False from e).elim
theorem JA (ha:PE X a ta)(he:∀whole,isTrue a X.env whole=(do let v <-whole;standAt a.pos;holding [v] (truthy v))) :
  PT X a (λσ H Q=>ta σ H λx H'=>∃k,TruV X.K x H' k/\Q k H'):=by
 intro pins s σ H Q I h
 exact isTrue_plain (thn (ha pins s σ H _ I h) λv s1 ⟨x,H1,I1,r1,q1⟩=>WA pins s1 σ H1 x v Q I1 r1 q1) (he _)
theorem K4:OpR X (binaryOp .Add) (λx y H Q=>∃i j,x=.str i/\y=.str j/\i.length+j.length<=sizeLine/\Q (.str (i++j)) H):=by
 intro pins s σ H x y v u Q I rx ry h
 obtain⟨i,j,rfl,rfl,hz,q⟩:=h
 obtain⟨t,rfl⟩:=rx
 obtain⟨t',rfl⟩:=ry
 exact add_str (λt' tk=>⟨.str (i++j),H,I.tok _,⟨_,rfl⟩,q⟩) hz
theorem vals1 {x:V}{us:List Value}(r:Vals [x] us):∃u,us=[u]/\RelV x u:=by
 cases r with
 |cons r1 r2=>cases r2;exact⟨_,rfl,r1⟩
theorem vals2 {x y:V}{us:List Value}(r:Vals [x,y] us):∃u w',us=[u,w']/\RelV x u/\RelV y w':=by
 cases r with
 |cons r1 r2=>
  cases r2 with
  |cons r3 r4=>cases r4;exact⟨_,_,rfl,r1,r3⟩
def LenV (K:PySem.W.Frag)(x:V)(H:Hp)(n:Nat):Prop :=
 match x with
 |.str y=>y.length<=sizeLine/\n=y.length
 |.byt y=>y.size<=sizeLine/\n=y.size
 |.ref p=>(∃xs,SqL K H p xs/\n=xs.length)∨∃xs,SqT K H p xs/\n=xs.length
 |_=>False
theorem W3:CallR X (.builtin "len") (λxs H Q=>∃x n,xs=[x]/\LenV X.K x H n/\Q (.int n) H):=by
 intro pins s σ H xs us Q I r h
 obtain⟨x,n,rfl,e,q⟩:=h
 obtain⟨u,rfl,rx⟩:=vals1 r
 have hl:=line63
 have hs:sizeLine=16777216:=sizeLine_eq
 cases x with
 |str y=>
  obtain⟨t,rfl⟩:=rx
  obtain⟨hy,e'⟩:y.length<=sizeLine/\n=y.length:=e
  subst e'
  exact len_str (by omega) ⟨.int _,H,I.tok _,⟨_,rfl⟩,q⟩
 |byt y=>
  obtain⟨t,rfl⟩:=rx
  obtain⟨hy,e'⟩:y.size<=sizeLine/\n=y.size:=e
  subst e'
  exact PySem.W.len_bytes (by omega) ⟨.int _,H,I.tok _,⟨_,rfl⟩,q⟩
 |ref p=>
  cases rx
  have e':(∃xs,SqL X.K H p xs/\n=xs.length)∨∃xs,SqT X.K H p xs/\n=xs.length:=e
  rcases e' with⟨xs,hx,e'⟩ | ⟨xs,hx,e'⟩
  ·subst e'
   obtain⟨its,r',pl,hz⟩:=I.list hx
   have hlen:=r'.length
   exact Calls.call_len_list pl.isList (by simp only[List.size_toArray];omega) ⟨.int xs.length,H,I.tok _,⟨_,by simp only[List.size_toArray];rw[hlen]⟩,q⟩
  ·subst e'
   obtain⟨its,r',pl,hz⟩:=I.tuple hx
   have hlen:=r'.length
   exact len_tuple pl (by simp only[List.size_toArray];omega) ⟨.int xs.length,H,I.tok _,⟨_,by simp only[List.size_toArray];rw[hlen]⟩,q⟩
 |_=>exact (show False from e).elim
end
structure ObjM (h:Heap)(x dx C:Addr)(mA:Str->Option Value):Prop where
 obj:h.get? x=some (instObj C dx)
 ns:h.Ns1 dx mA
 ne:dx≠x
theorem Wa {h:Heap}{dx:Addr}{mA:Str->Option Value}(n:h.Ns1 dx mA):∃od,h.get? dx=some od/\∀name,PySem.W.lookIn name od=some (mA name):=by
 obtain⟨o,es,ep,ho,hd,hk,_,hm⟩:=n
 refine⟨o,ho,λname=>?_⟩
 have e:=hm name
 unfold nsFind findBy at e
 rw[<-Array.find?_toList] at e
 unfold PySem.W.lookIn
 rw[hd]
 dsimp only
 split
 ·rename_i y q
  rw[q] at e
  exact congrArg some e
 ·rename_i q
  rw[q] at e
  have a:es.toList.any (·.refKey)=false:=by
   rw[List.any_eq_false]
   intro y hy
   obtain⟨z,t,hkey⟩:=hk y (Array.mem_toList_iff.mp hy)
   simp[DictEntry.refKey,hkey]
  have a':¬es.toList.any (·.refKey)=true:=by rw[a];exact Bool.false_ne_true
  rw[if_neg a']
  exact congrArg some e
theorem ObjM.look {h:Heap}{x dx C:Addr}{mA:Str->Option Value}(I:ObjM h x dx C mA):∃od,InstAt h x (instObj C dx) C (some od)/\∀name,PySem.W.lookIn name od=some (mA name) :=
 let ⟨od,ho,hl⟩:=Wa I.ns
 ⟨od,⟨I.obj,rfl,rfl,ho⟩,hl⟩
section
variable {prog:Program}{w:World}{A:Around}{E:Value->Shared->Prop}{s:Shared}{K:PySem.W.Frag}{x dx C f:Addr}{mA:Str->Option Value}{name:Str}{v:Value}
theorem Qc {expr:Bool}{Q:Value->Shared->Prop}(X:K.In s.heap)(I:ObjM s.heap x dx C mA)(hg:plainGet K C name=true)(hh:hasDictIn K C=true)
  (ha:findIn K (.ref C) name=some none) (hv:mA name=some v) (hv':PySem.W.handedIn v=true) (h:Q v { s with toks:=s.toks+1 }) :
  wpAny (model prog w) A (getAttr (.ref x) name expr) Q E s:=by
 obtain⟨od,J,hl⟩:=I.look
 exact PySem.W.get_value X J (PySem.W.plainGet_of hg).1 (PySem.W.findObj_own hh ha rfl (by rw[hl,hv])) hv' h
theorem Ko {pl:Sem Bool}{Q:Value×List Value->Shared->Prop}(X:K.In s.heap)(I:ObjM s.heap x dx C mA)(hg:plainGet K C name=true)
  (hf:findIn K (.ref C) name=some (some (.ref f))) (ht:PySem.W.isFn K (.ref f)=true) (hv:mA name=none) (h:Q (.ref f,[.ref x]) s) :
  wpAny (model prog w) A (getMethod (.ref x) name pl) Q E s:=by
 obtain⟨od,J,hl⟩:=I.look
 exact PySem.W.method_fn X J (PySem.W.plainGet_of hg).1 (PySem.W.plainGet_of hg).2 hf (beq_iff_eq.mp ht) (by show (PySem.W.lookIn name od).map (·.isSome)=some false;rw[hl,hv];rfl) h
theorem Qt {ns:List Str}{Q:Unit->Shared->Prop}(X:K.In s.heap)(I:ObjM s.heap x dx C mA)
  (hs:findIn K (.ref C) "__setattr__" = some (some (.builtin "object.__setattr__"))) (hp:PySem.W.plainOver K C=true) (ht:takerIn K C name=some none) (hh:hasDictIn K C=true)
  (hw:PySem.Within mA ns) (hsz:ns.length<=sizeLine)
  (h:∀h',ObjM h' x dx C (λy=>if y=name then some v else mA y)->Heap.SameBut dx s.heap h'->Q () { s with heap:=h',toks:=s.toks+2 }) :
  wpAny (model prog w) A (setAttr (.ref x) name v) Q E s:=by
 obtain⟨od,J,hl⟩:=I.look
 refine PySem.W.set_plain X J hs (PySem.W.osa_open (s:={ s with toks:=s.toks+1 }) (r:=none) X J hp ht λb=>?_)
 obtain⟨cd,hc,hd'⟩:=PySem.W.any_some hh
 have hx:s.heap.get? x=some ⟨.ref C,some dx,.plain,#[]⟩:=I.obj
 refine wpAny_bind (wpAny_pure (wpAny_bind (wpAny_bind (wpAny_loadPart hx (wpAny_bind (PySem.W.Looks.here (s:={ s with toks:=s.toks+1 }) (PySem.W.looks_clsIn X hc) ?_))))))
 rw[hd']
 refine wpAny_pure (a:=some dx) (wpAny_bind (wpAny_pure (wpAny_bind ?_)))
 refine wpAny_nsSet1 (s:={ s with toks:=s.toks+1 }) I.ns λh' hn2 hs2=>?_
 obtain⟨oD,esD,epD,hoD,hdD,hcD⟩:=hn2.count (PySem.Within.cons name v hw)
 refine wpAny_bind (wpAny_lookBehind hoD (by rw[hdD];exact pastItsLine_dict (Nat.le_trans hcD (by rw[List.length_cons];omega))) ?_)
 exact wpAny_pure (h _ ⟨(hs2.2 _ (Ne.symm I.ne)).trans I.obj,hn2,I.ne⟩ hs2)
theorem uQ {R:Result->Shared->Prop}{vs:List Value}{kw:List (Str×Value)}(X:K.In s.heap)(hm:PySem.W.makesIn K C=true)
  (hi:findIn K (.ref C) "__init__" = some (some (.ref f))) (hf:PySem.W.typeIn K (.ref f)=some (.type "function"))
  (h:codeAny (model prog w) (A.under (.builtin "type.__call__" ⟨.ref C::vs,kw⟩)) (.call (.ref f) ⟨.ref (s.heap.objs.size+1)::vs,kw⟩) (PySem.W.InitBack (s.heap.objs.size+1) R)
   { s with heap:=(s.heap.push emptyDict).push (instObj C s.heap.objs.size) }) :
  codeAny (model prog w) A (.call (.ref C) ⟨vs,kw⟩) R s:=by
 obtain⟨hh,g,d,t,os⟩:=s
 exact PySem.W.make_core (PySem.W.makes_of X hm) (looks_findIn X hi) (λself=>PySem.W.bind_fn X self hf) (.inl rfl) h
end
def putF (f:Str)(v:V):List (Str×V)->List (Str×V)
 | []=>[(f,v)]
 | (g,x)::r=>if g=f then (g,v)::r else (g,x)::putF f v r
theorem Z7 (f g:Str)(v:V):∀fs:List (Str×V),(putF f v fs).lookup g=if g=f then some v else fs.lookup g
 | []=>by
  show List.lookup g [(f,v)]=_
  by_cases h:g=f
  ·have hb:(g==f)=true:=beq_iff_eq.mpr h
   simp only[List.lookup,hb,if_pos h]
  ·have hb:(g==f)=false:=beq_eq_false_iff_ne.mpr h
   simp only[List.lookup,hb,if_neg h]
 | (k,x)::r=>by
  have ih:=Z7 f g v r
  rw[show putF f v ((k,x)::r)=(if k=f then (k,v)::r else (k,x)::putF f v r) from rfl]
  by_cases hk:k=f
  ·rw[if_pos hk]
   by_cases h:g=k
   ·have hb:(g==k)=true:=beq_iff_eq.mpr h
    simp only[List.lookup,hb,if_pos (h.trans hk)]
   ·have hb:(g==k)=false:=beq_eq_false_iff_ne.mpr h
    simp only[List.lookup,hb,if_neg (λe:g=f=>h (e.trans hk.symm))]
  ·rw[if_neg hk]
   by_cases h:g=k
   ·have hb:(g==k)=true:=beq_iff_eq.mpr h
    simp only[List.lookup,hb,if_neg (λe:g=f=>hk (h.symm.trans e))]
   ·have hb:(g==k)=false:=beq_eq_false_iff_ne.mpr h
    simp only[List.lookup,hb]
    exact ih
theorem jX (f:Str)(v:V):∀fs:List (Str×V),f∈(putF f v fs).map (·.1)/\∀g,g∈fs.map (·.1)->g∈(putF f v fs).map (·.1)
 | []=>⟨by simp[putF],λg h=>by simp at h⟩
 | (k,x)::r=>by
  obtain⟨i1,i2⟩:=jX f v r
  rw[show putF f v ((k,x)::r)=(if k=f then (k,v)::r else (k,x)::putF f v r) from rfl]
  by_cases hk:k=f
  ·rw[if_pos hk]
   subst hk
   exact⟨by simp,λg h=>by simpa using h⟩
  ·rw[if_neg hk]
   refine⟨?_,λg h=>?_⟩
   ·rw[List.map_cons]
    exact List.mem_cons_of_mem _ i1
   ·rw[List.map_cons] at h ⊢
    rcases List.mem_cons.mp h with e | e
    ·exact List.mem_cons.mpr (.inl e)
    ·exact List.mem_cons_of_mem _ (i2 g e)
theorem uE (f:Str)(v:V):∀fs:List (Str×V),(putF f v fs).length<=fs.length+1
 | []=>by simp[putF]
 | (k,x)::r=>by
  have ih:=uE f v r
  rw[show putF f v ((k,x)::r)=(if k=f then (k,v)::r else (k,x)::putF f v r) from rfl]
  by_cases hk:k=f
  ·rw[if_pos hk,List.length_cons,List.length_cons];omega
  ·rw[if_neg hk,List.length_cons,List.length_cons];omega
theorem RelO.some_of {v:V}{o:Option Value}(r:RelO (some v) o):∃u,o=some u/\RelV v u:=by
 cases o with
 |none=>exact (show False from r).elim
 |some u=>exact⟨u,rfl,r⟩
theorem RelO.none_of {o:Option Value}(r:RelO none o):o=none:=by
 cases o with
 |none=>rfl
 |some u=>exact (show False from r).elim
theorem Yi {v:V}{u:Value}(r:RelV v u):PySem.W.handedIn u=true:=by
 cases v with
 |non=>cases (show u=Value.none from r);rfl
 |bl b=>cases (show u=Value.bool b from r);rfl
 |int i=>obtain⟨t,e⟩:=(show ∃t,u=Value.int i t from r);cases e;rfl
 |str x=>obtain⟨t,e⟩:=(show ∃t,u=Value.str x t from r);cases e;rfl
 |byt b=>obtain⟨t,e⟩:=(show ∃t,u=Value.bytes b t from r);cases e;rfl
 |flt b=>obtain⟨t,e⟩:=(show ∃t,u=Value.float b t from r);cases e;rfl
 |ref a=>cases (show u=Value.ref a from r);rfl
 |ty n=>cases (show u=Value.type n from r);rfl
section
variable {P:Program}{w:World}{H H':Hp}{h h':Heap}{a C dx:Addr}{fs fs':List (Str×V)}
theorem jc (hok:HOk P w H h)(e:H a=some (.ins C dx fs)):∃mA,ObjM h a dx C mA/\(∀f,RelO (fs.lookup f) (mA f))/\PySem.Within mA (fs.map (·.1))/\fs.length<=1000/\H dx=some (.own a):=by
 obtain⟨d,z,ne,ob,mA,n,r,q⟩:=(show ObjOk P w H h a (.ins C dx fs) from hok a _ e)
 exact⟨mA,⟨ob,n,ne⟩,r,q,z,d⟩
end
structure Cls (K:PySem.W.Frag)(C:Addr):Prop where
 pg:plainGet K C Str.empty=true
 hd:hasDictIn K C=true
 po:PySem.W.plainOver K C=true
 sa:findIn K (.ref C) "__setattr__" = some (some (.builtin "object.__setattr__"))
theorem Cls.get {K:PySem.W.Frag}{C:Addr}(c:Cls K C)(f:Str):plainGet K C f=true:=c.pg
def NoAttr (K:PySem.W.Frag)(C:Addr)(f:Str):Prop:=findIn K (.ref C) f=some none
theorem NoAttr.taker {K:PySem.W.Frag}{C:Addr}{f:Str}(n:NoAttr K C f):takerIn K C f=some none:=by
 unfold takerIn
 rw[show findIn K (.ref C) f=some none from n]
 rfl
structure Con (K:PySem.W.Frag)(C:Addr)(f:Str)(v:V)(u:Value):Prop where
 at_:findIn K (.ref C) f=some (some u)
 rel:RelV v u
 get:PySem.W.specialIn K u "__get__" = some none
 cp:PySem.W.copiedNames.contains f=false
structure Meth (K:PySem.W.Frag)(C:Addr)(m:Str)(f:Addr):Prop where
 at_:findIn K (.ref C) m=some (some (.ref f))
 fn:PySem.W.isFn K (.ref f)=true
 kp:keepIn K (.ref f)=true
section
variable {X:Cx}{pins:List (Addr×Obj)}{σ:St}{H:Hp}{s:Shared}{a C dx:Addr}{fs:List (Str×V)}{f:Str}{v:V}{A:Around}{E:Value->Shared->Prop}
theorem Qu {b:Bool}{Q:Value->Shared->Prop}(I:Inv X pins σ H s)(e:H a=some (.ins C dx fs))(c:Cls X.K C)(n:NoAttr X.K C f)(l:fs.lookup f=some v)
  (h:∀u s',Inv X pins σ H s'->RelV v u->Q u s'):wpAny (model X.prog X.w) A (getAttr (.ref a) f b) Q E s:=by
 obtain⟨mA,O,r,_,_,_⟩:=jc I.hok e
 obtain⟨u,hu,ru⟩:=RelO.some_of (v:=v) (o:=mA f) (by rw[<-l];exact r f)
 exact Qc I.kIn O (c.get f) c.hd n hu (Yi ru) (h u _ (I.tok _) ru)
theorem qY {m:Str}{g:Addr}{pl:Sem Bool}{Q:Value×List Value->Shared->Prop}(I:Inv X pins σ H s)(e:H a=some (.ins C dx fs))(c:Cls X.K C)(k:Meth X.K C m g)(l:fs.lookup m=none)
  (h:Q (.ref g,[.ref a]) s):wpAny (model X.prog X.w) A (getMethod (.ref a) m pl) Q E s:=by
 obtain⟨mA,O,r,_,_,_⟩:=jc I.hok e
 have hn:mA m=none:=RelO.none_of (by rw[<-l];exact r m)
 exact Ko I.kIn O (c.get m) k.at_ k.fn hn h
theorem Wc {y:V}{u:Value}{Q:Unit->Shared->Prop}(I:Inv X pins σ H s)(e:H a=some (.ins C dx fs))(c:Cls X.K C)(n:NoAttr X.K C f)(hl:fs.length < 1000)(ry:RelV y u)
  (h:∀s',Inv X pins σ (upd H a (.ins C dx (putF f y fs))) s'->Q () s'):wpAny (model X.prog X.w) A (setAttr (.ref a) f u) Q E s:=by
 obtain⟨mA,O,r,wi,_,ho⟩:=jc I.hok e
 have hz:(fs.map (·.1)).length<=sizeLine:=by rw[List.length_map,sizeLine_eq];omega
 refine Qt I.kIn O c.sa c.po n.taker c.hd wi hz λh' O' sb=>h _ ?_
 have hd:∃o,h'.get? dx=some o:=let ⟨o,_,_,e',_⟩:=O'.ns;⟨o,e'⟩
 refine I.write (x:=a) (e:=dx) (by rw[e];exact True.intro) (.inr ho) (λb q hb z=>(sb.2 b hb).trans z) hd ?_
 refine⟨by rw[zf O.ne];exact ho,?_,O.ne,O'.obj,_,O'.ns,λg=>?_,λg hg=>?_⟩
 ·have:=uE f y fs;omega
 ·show RelO ((putF f y fs).lookup g) (if g=f then some u else mA g)
  rw[Z7]
  by_cases q:g=f
  ·rw[if_pos q,if_pos q];exact ry
  ·rw[if_neg q,if_neg q];exact r g
 ·by_cases q:g=f
  ·rw[q];exact (jX f y fs).1
  ·refine (jX f y fs).2 g (wi g λz=>hg ?_)
   show (if g=f then some u else mA g)=none
   rw[if_neg q];exact z
theorem Inv.made (I:Inv X pins σ H s):Inv X pins σ (upd (upd H s.heap.objs.size (.own (s.heap.objs.size+1))) (s.heap.objs.size+1) (.ins C s.heap.objs.size []))
  { s with heap:=(s.heap.push emptyDict).push (instObj C s.heap.objs.size) }:=by
 have e1:(s.heap.push emptyDict).get? s.heap.objs.size=some emptyDict:=Heap.get?_push_size s.heap rfl
 have e2:((s.heap.push emptyDict).push (instObj C s.heap.objs.size)).get? (s.heap.objs.size+1)=some (instObj C s.heap.objs.size):=by
  have:=Heap.get?_push_size (s.heap.push emptyDict) (o:=instObj C s.heap.objs.size) rfl
  rwa [Heap.size_push] at this
 have e3:(s.heap.push emptyDict).Ns s.heap.objs.size (λ_=>none):=⟨emptyDict,#[],_,e1,rfl,(λe he=>absurd he (by simp)),λ_=>rfl⟩
 have I1:=I.laid (a:=s.heap.objs.size) (o:=.own (s.heap.objs.size+1)) (h':=s.heap.push emptyDict) (t':=s.toks) (λb u q=>Heap.get?_push_of_some _ q) (Nat.le_refl _) ⟨_,e1⟩
 refine I1.laid (a:=s.heap.objs.size+1) (o:=.ins C s.heap.objs.size []) (t':=s.toks) (λb u q=>Heap.get?_push_of_some _ q) (Nat.le_of_eq (Heap.size_push _ _)) ?_
 have ne:s.heap.objs.size≠s.heap.objs.size+1:=Nat.ne_of_lt (Nat.lt_succ_self _)
 refine⟨by rw[zf ne,zm],Nat.zero_le _,ne,e2,λ_=>none,(Heap.Ns1.of_empty e3).at λo q=>Heap.get?_push_of_some _ q,λ_=>True.intro,λy hy=>absurd rfl hy⟩
theorem Zi {prog:Program}{w:World}{env:Env}{e:Expr}{f:Str}{pos:Pos}{s:Shared}{Q:Value->Shared->Prop}(hb:attributeBase e f env (eval e env)=eval e env)
  (h:wpAny (model prog w) A (eval e env) (λo s₁=>wpAny (model prog w) A (getAttr o f true) Q E s₁) E s):wpAny (model prog w) A (eval (.Attribute e f pos) env) Q E s :=
 Attribute_any_ h (by rw[arm_eval_Attribute,hb])
end
def tFld (K:PySem.W.Frag)(ta:TE)(f:Str):TE:=λσ H Q=>ta σ H λx H1=>∃a C dx fs v,x=.ref a/\H1 a=some (.ins C dx fs)/\Cls K C/\NoAttr K C f/\fs.lookup f=some v/\Q v H1
def sFld (K:PySem.W.Frag)(ta tv:TE)(f:Str):TS:=λD σ H=>tv σ H λy H1=>ta σ H1 λx H2=>∃a C dx fs,x=.ref a/\H2 a=some (.ins C dx fs)/\Cls K C/\NoAttr K C f/\fs.length < 1000 /\
 D.nx σ (upd H2 a (.ins C dx (putF f y fs)))
section
variable {X:Cx}{o e value:Expr}{f:Str}{pos pos' tpos:Pos}{ta tv:TE}
theorem WB (he:PE X e ta)(hb:attributeBase e f X.env (eval e X.env)=eval e X.env):PE X (.Attribute e f pos) (tFld X.K ta f):=by
 intro pins s σ H Q I h
 refine Zi hb (thn (he pins s σ H _ I h) λu s1 ⟨x,H1,I1,rx,a,C,dx,fs,v,ex,ea,c,n,l,q⟩=>?_)
 subst ex
 obtain rfl:u=Value.ref a:=rx
 exact Qu I1 ea c n l λu' s2 I2 ru=>⟨v,H1,I2,ru,q⟩
theorem J8 (ha:PE X o ta)(hv:PE X value tv)(hs:swapsWith value (some (.Attribute o f pos')) pos.line X.env=pure false):PS X (.Assign [.Attribute o f pos'] value pos) (sFld X.K ta tv f):=by
 intro pins s σ H D I h
 refine plainObj_wpAny_Assign_Attribute (thn (hv pins s σ H _ I h) λu s1 ⟨y,H1,I1,ry,q⟩=>thn (ha pins s1 σ H1 _ I1 q) λov s2 ⟨x,H2,I2,rx,a,C,dx,fs,ex,ea,c,n,l,q2⟩=>?_) hs
 subst ex
 obtain rfl:ov=Value.ref a:=rx
 exact Wc I2 ea c n l ry λs3 I3=>⟨σ,_,I3,q2⟩
end
section
variable {X:Cx}{pins:List (Addr×Obj)}{σ:St}{H:Hp}{s:Shared}{A:Around}{E:Value->Shared->Prop}{Q:Value->Shared->Prop}{c:Value}{b:Bool}
inductive TyOf (K:PySem.W.Frag) (H:Hp):V->Value->Prop where
 |non:TyOf K H .non (.type "NoneType")
 |bl (x:Bool):TyOf K H (.bl x) (.type "bool")
 |int (i:Int):TyOf K H (.int i) (.type "int")
 |str (x:Str):TyOf K H (.str x) (.type "str")
 |flt (x:UInt64):TyOf K H (.flt x) (.type "float")
 |lst {a:Addr} {xs:List V} (e:H a=some (.lst xs)):TyOf K H (.ref a) (.type "list")
 |frz {a:Addr} {o:Obj} {xs:List V} (e:H a=some (.frz o (.lst xs))):TyOf K H (.ref a) (.type "list")
 |tup {a:Addr} {xs:List V} (e:H a=some (.tup xs)):TyOf K H (.ref a) (.type "tuple")
 |dK {a:Addr} {kvs:List (Key×V)} (e:H a=some (.dK kvs)):TyOf K H (.ref a) (.type "dict")
 |dT {a:Addr} {kvs:List (List Key×V)} (e:H a=some (.dT kvs)):TyOf K H (.ref a) (.type "dict")
 |ins {a C dx:Addr} {fs:List (Str×V)} (e:H a=some (.ins C dx fs)) (cl:Cls K C) (ha:findIn K (.ref C) "__class__" = some (some (.builtin "object.__class__")))
   (hn:PySem.W.specialIn K (.builtin "object.__class__") "__get__" = some (some (.builtin "getset_descriptor.__get__"))) (htk:PySem.W.takesIn K (.builtin "object.__class__")=some true)
   (hm:PySem.W.mroIn K C (.type "object")=some true):TyOf K H (.ref a) (.ref C)
theorem JW {x:V}{u t:Value}(I:Inv X pins σ H s)(rx:RelV x u)(ty:TyOf X.K H x t)(e:kitOne X.K t c=some b)(h:∀tk,Q (.bool b) { s with toks:=tk }) :
  wpAny (model X.prog X.w) A (call (.builtin "isinstance") [u,c]) Q E s:=by
 cases ty with
 |non=>cases (show u=Value.none from rx);exact PySem.W.kia_one PySem.W.kitx_none I.kIn True.intro e (λz=>nomatch z) h
 |bl y=>cases (show u=Value.bool y from rx);exact PySem.W.kia_one PySem.W.kitx_bool I.kIn True.intro e (λz=>nomatch z) h
 |int i=>obtain⟨t,q⟩:=(show ∃t,u=Value.int i t from rx);cases q;exact PySem.W.kia_one PySem.W.kitx_int I.kIn True.intro e (λz=>nomatch z) h
 |str y=>obtain⟨t,q⟩:=(show ∃t,u=Value.str y t from rx);cases q;exact PySem.W.kia_one PySem.W.kitx_str I.kIn True.intro e (λz=>nomatch z) h
 |flt y=>obtain⟨t,q⟩:=(show ∃t,u=Value.float y t from rx);cases q;exact PySem.W.kia_one PySem.W.kitx_float I.kIn True.intro e (λz=>nomatch z) h
 | @lst a xs ea=>
  cases (show u=Value.ref a from rx)
  obtain⟨_,_,n,_,h1⟩:=(show ObjOk X.prog X.w H s.heap a (.lst xs) from I.hok a _ ea)
  exact PySem.W.kia_one PySem.W.kitx_list I.kIn ⟨_,h1,rfl⟩ e (λz=>nomatch z) h
 | @frz a ob xs ea=>
  cases (show u=Value.ref a from rx)
  obtain⟨_,_,_,n,_,h1⟩:=(show ObjOk X.prog X.w H s.heap a (.frz ob (.lst xs)) from I.hok a _ ea)
  exact PySem.W.kia_one PySem.W.kitx_list I.kIn ⟨_,h1,rfl⟩ e (λz=>nomatch z) h
 | @tup a xs ea=>
  cases (show u=Value.ref a from rx)
  obtain⟨_,_,_,p⟩:=(show ObjOk X.prog X.w H s.heap a (.tup xs) from I.hok a _ ea)
  obtain⟨o,h1,h2,_⟩:=p
  exact PySem.W.kia_one PySem.W.kitx_tuple I.kIn ⟨o,h1,h2⟩ e (λz=>nomatch z) h
 | @dK a kvs ea=>
  cases (show u=Value.ref a from rx)
  obtain⟨_,_,vs,_,p⟩:=(show ObjOk X.prog X.w H s.heap a (.dK kvs) from I.hok a _ ea)
  obtain⟨o,es,ep,h1,h2,_⟩:=p
  exact PySem.W.kia_one PySem.W.kitx_dict I.kIn ⟨o,h1,h2.1⟩ e (λz=>nomatch z) h
 | @dT a kvs ea=>
  cases (show u=Value.ref a from rx)
  obtain⟨_,_,xs,_,o,es,ep,h1,h2,_⟩:=(show ObjOk X.prog X.w H s.heap a (.dT kvs) from I.hok a _ ea)
  exact PySem.W.kia_one PySem.W.kitx_dict I.kIn ⟨o,h1,h2.1⟩ e (λz=>nomatch z) h
 | @ins a C dx fs ea cl ha hn htk hm=>
  cases (show u=Value.ref a from rx)
  obtain⟨mA,O,_⟩:=jc I.hok ea
  obtain⟨od,J,_⟩:=O.look
  exact PySem.W.kia_one (PySem.W.kitx_own (cl.get _) cl.hd ha hn htk hm) I.kIn J e (λz=>nomatch z) h
end
structure Room (k:Nat)(A:Around):Prop where
 hd:A.handled=none
 dp:A.depth+3 * k+5 < recursionLimit
 un:A.units+16 * k+200 < cLine
theorem Room.mono {j k:Nat}{A:Around}(r:Room k A)(h:j<=k):Room j A:=⟨r.hd,by have:=r.dp;omega,by have:=r.un;omega⟩
theorem Room.deeper {k:Nat}{A:Around}(r:Room (k+1) A)(env:Env):Room k (A.deeper env) :=
 ⟨r.hd,by have:=r.dp;show A.depth+1+3 * k+5 < _;omega,by have:=r.un;show A.units+3+16 * k+200 < _;omega⟩
theorem YZ {A:Around}{C:Addr}{us:List Value}{kw:List (Str×Value)}:(A.under (.builtin "type.__call__" ⟨.ref C::us,kw⟩)).depth=A.depth+1:=by
 first | rfl | simp[Around.under,Code.weight,Code.isCreation,Code.isGuard,Code.isCaller,Code.frames,Code.isFrame,guardIds]
theorem QB {A:Around}{C:Addr}{us:List Value}{kw:List (Str×Value)}:(A.under (.builtin "type.__call__" ⟨.ref C::us,kw⟩)).units=A.units+1:=by
 first | rfl | simp[Around.under,Code.cUnits,Code.frames,Code.isFrame]
theorem Room.make {k:Nat}{A:Around}(r:Room (k+1) A)(C:Addr)(us:List Value)(kw:List (Str×Value)):Room k (A.under (.builtin "type.__call__" ⟨.ref C::us,kw⟩)) :=
 ⟨r.hd,by have:=r.dp;rw[YZ];omega,by have:=r.un;rw[QB];omega⟩
theorem Room.depth {k:Nat}{A:Around}(r:Room k A):A.depth < recursionLimit:=by have:=r.dp;omega
theorem Room.units {k:Nat}{A:Around}(r:Room k A):A.units+64 < cLine:=by have:=r.un;omega
def tNil:TA:=λ_ H Q=>Q [] H
def tCons (ta:TE)(tr:TA):TA:=λσ H Q=>ta σ H λx H1=>tr σ H1 λxs H2=>Q (x::xs) H2
section
variable {X:Cx}{e:Expr}{es:List Expr}{te:TE}{t:TA}{pos:Pos}
theorem zQ:PA X [] tNil:=λ_ _ _ _ H Q I h=>Calls.spliced_nil ⟨[],H,I,.nil,h⟩
theorem z5 (ha:PE X e te)(hr:PA X es t)(hs:starEach (e::es) X.env=(false,eval e X.env)::starEach es X.env:=by rfl):PA X (e::es) (tCons te t):=by
 intro pos pins s σ H Q I h
 rw[hs]
 show wpAny _ _ (spliced ((false,eval e X.env)::backTo pos (starEach es X.env))) _ _ s
 refine Calls.spliced_cons (thn (ha pins s σ H _ I h) λu s1 ⟨x,H1,I1,r1,q1⟩=>?_)
 exact thn (hr pos pins s1 σ H1 _ I1 q1) λus s2 ⟨xs,H2,I2,r2,q2⟩=>⟨x::xs,H2,I2,.cons r1 r2,q2⟩
def tTup (t:TA):TE:=λσ H Q=>t σ H λxs H1=>xs.length<=sizeLine/\∀p,H1 p=none->Q (.ref p) (upd H1 p (.tup xs))
def tLst (t:TA):TE:=λσ H Q=>t σ H λxs H1=>xs.length<=sizeLine/\∀p,H1 p=none->Q (.ref p) (upd H1 p (.lst xs))
theorem Wt {x1}(h:PA X es t):PE X (.Tuple es x1 pos) (tTup t):=by
 intro pins s σ H Q I hq
 refine wpAny_Tuple_spliced (thn (h pos pins s σ H _ I hq) λus s1 ⟨xs,H1,I1,r,z,q⟩=>⟨by rw[<-r.length];exact z,?_⟩)
 have hf:H1 s1.heap.objs.size=none:=I1.hok.fresh (Nat.le_refl _)
 refine⟨.ref s1.heap.objs.size,upd H1 s1.heap.objs.size (.tup xs),I1.laid (t':=s1.toks) (λb u e=>Heap.get?_push_of_some _ e) (Nat.le_refl _) ?_,rfl,q _ hf⟩
 exact⟨z,us,r,⟨_,Heap.get?_push_size _ rfl,rfl,_,rfl⟩⟩
theorem Kd (h:PA X es t):PE X (.List es pos) (tLst t):=by
 intro pins s σ H Q I hq
 refine wpAny_List_spliced (thn (h pos pins s σ H _ I hq) λus s1 ⟨xs,H1,I1,r,z,q⟩=>⟨by rw[<-r.length];exact z,?_⟩)
 have hf:H1 s1.heap.objs.size=none:=I1.hok.fresh (Nat.le_refl _)
 refine⟨.ref s1.heap.objs.size,upd H1 s1.heap.objs.size (.lst xs),I1.laid (t':=s1.toks) (λb u e=>Heap.get?_push_of_some _ e) (Nat.le_refl _) ?_,rfl,q _ hf⟩
 exact⟨z,us,0,r,Heap.get?_push_size _ rfl⟩
end
abbrev Sp:=List V->Hp->VK->XK->Prop
abbrev CXT:=List Env->Hp->Shared->XK->Value->Shared->Prop
structure Env0 (P:Program)(w:World)(K:PySem.W.Frag)(mg:Str->Option Value)(base:Heap)(A:Around)(outer:List Env)(s:Shared)(H:Hp):Prop where
 frames:A.frames=some outer
 mod:Mod K mg base
 bs:∀b o,base.get? b=some o->s.heap.get? b=some o/\H b=none
 bsz:base.objs.size<=s.heap.objs.size
 funs:s.heap.FunFrames base outer
 frf:∀b∈frs outer,H b=none
 hok:HOk P w H s.heap
 bare:AllBare s.gens
def CE (outer:List Env)(P:Program)(w:World)(H:Hp)(s:Shared)(Q:VK)(u:Value)(s':Shared):Prop :=
 ∃v H',s'.os=s.os/\AllBare s'.gens/\Un (frs outer) [] H H' s.heap s'.heap/\HOk P w H' s'.heap/\RelV v u/\Q v H'
def CR (CX:CXT)(outer:List Env)(P:Program)(w:World)(H:Hp)(s:Shared)(Q:VK)(E:XK)(r:Result)(s':Shared):Prop :=
 match r with
 |.ok (.ret u)=>CE outer P w H s Q u s'
 |.ok _=>False
 |.error e=>CX outer H s E e s'
structure FnOk (P:Program)(w:World)(K:PySem.W.Frag)(mg:Str->Option Value)(base:Heap)(CX:CXT)(k:Nat)(f:Addr)(fd:FuncData)(ps:List Str)(sp:Sp):Prop where
 len:∀vs H Q E,sp vs H Q E->vs.length=ps.length
 run:∀(A:Around) (outer:List Env) (s:Shared) (H:Hp) (args:Args) (us:List Value) (vs:List V) (Q:VK) (E:XK),Room k A->Env0 P w K mg base A outer s H->BindsTo s fd args (ps.zip us)->Vals vs us->sp vs H Q E ->
  codeAny (model P w) A (.call (.ref f) args) (CR CX outer P w H s Q E) s
theorem FnOk.imp {P:Program}{w:World}{K:PySem.W.Frag}{mg:Str->Option Value}{base:Heap}{CX:CXT}{k:Nat}{f:Addr}{fd:FuncData}{ps:List Str}{sp sp':Sp}(F:FnOk P w K mg base CX k f fd ps sp)
  (h:∀vs H Q E,sp' vs H Q E->sp vs H Q E):FnOk P w K mg base CX k f fd ps sp' :=
 ⟨λvs H Q E q=>F.len vs H Q E (h _ _ _ _ q),λA outer s H args us vs Q E hr he hb hv hs=>F.run A outer s H args us vs Q E hr he hb hv (h _ _ _ _ hs)⟩
theorem Env0.make {P:Program}{w:World}{K:PySem.W.Frag}{mg:Str->Option Value}{base:Heap}{A:Around}{outer:List Env}{s:Shared}{H:Hp}(e:Env0 P w K mg base A outer s H)(C:Addr)(us:List Value)(kw:List (Str×Value)) :
  Env0 P w K mg base (A.under (.builtin "type.__call__" ⟨.ref C::us,kw⟩)) outer s H:=⟨by first | exact e.frames | (simpa[Around.under,Code.envs,Code.isFrame,pushEnvs] using e.frames),e.mod,e.bs,e.bsz,e.funs,e.frf,e.hok,e.bare⟩
section
variable {X:Cx}{pins:List (Addr×Obj)}{σ:St}{H:Hp}{s s':Shared}
theorem Inv.env0 (I:Inv X pins σ H s):Env0 X.prog X.w X.K X.mg X.base X.A X.stack s H :=
 ⟨I.ok.frames,I.ok.mod,I.bs,Nat.le_trans I.ok.bsz I.sz,I.stack,I.stkFree,I.hok,I.bare⟩
theorem Inv.after {Q:VK}{u:Value}(I:Inv X pins σ H s)(h:CE X.stack X.prog X.w H s Q u s'):EP X pins σ Q u s':=by
 obtain⟨v,H',os,bare,un,hok,r,q⟩:=h
 obtain⟨hh,g,d,t,os'⟩:=s'
 obtain rfl:os'=s.os:=os
 exact⟨v,H',I.call (h':=hh) (g':=g) (d':=d) (t':=t) (ch:=[]) un hok bare (λb z=>absurd z (by simp)),r,q⟩
end
def tCall (sp:Sp)(dvs:List V)(E:XK)(t:TA):TE:=λσ H Q=>t σ H λvs H1=>sp (vs++dvs) H1 Q E
def tMeth (C:Addr)(m:Str)(sp:Sp)(dvs:List V)(E:XK)(ta:TE)(t:TA):TE:=λσ H Q=>ta σ H λx H1=>∃a dx fs,x=.ref a/\H1 a=some (.ins C dx fs)/\fs.lookup m=none /\
 t σ H1 λvs H2=>sp (x::(vs++dvs)) H2 Q E
def tMake (C:Addr)(sp:Sp)(dvs:List V)(E:XK)(t:TA):TE:=λσ H Q=>t σ H λvs H1=>∀x dx,H1 x=none->H1 dx=none->dx≠x ->
 sp (.ref x::(vs++dvs)) (upd (upd H1 dx (.own x)) x (.ins C dx [])) (λv H2=>v=.non/\Q (.ref x) H2) E
def Binds (K:PySem.W.Frag)(fd:FuncData)(ps:List Str)(ds:List Value):Prop :=
 ∀(s:Shared) (us:List Value),K.In s.heap->(us++ds).length=ps.length->BindsTo s fd ⟨us,[]⟩ (ps.zip (us++ds))
theorem Binds.all {K:PySem.W.Frag}{fd:FuncData}{ps:List Str}(h:∀us:List Value,us.length=ps.length->bindArgs fd ⟨us,[]⟩=pure (ps.zip us)):Binds K fd ps []:=λs us _ hl=>by
 rw[List.append_nil] at hl ⊢
 exact .of_eq (h us hl)
def Passes (CX:CXT)(X:Cx)(E:XK):Prop:=∀(pins:List (Addr×Obj)) (σ:St) (H:Hp) (s:Shared) (e:Value) (s':Shared),Inv X pins σ H s->CX X.stack H s E e s'->X.xe e s'
section
variable {X:Cx}{CX:CXT}{k:Nat}{f C:Addr}{fd:FuncData}{ps:List Str}{sp:Sp}{dvs:List V}{ds:List Value}{E:XK}{x m:Str}{p pos apos:Pos}{e o:Expr}{es:List Expr}{ta:TE}{t:TA}
theorem jG {pins:List (Addr×Obj)}{σ:St}{H:Hp}{s:Shared}{Q:VK}{us:List Value}{vs:List V}(F:FnOk X.prog X.w X.K X.mg X.base CX k f fd ps sp)(hr:Room k X.A)(hb:Binds X.K fd ps ds)(hd:Vals dvs ds)(hx:Passes CX X E)
  (I:Inv X pins σ H s) (r:Vals vs us) (h:sp (vs++dvs) H Q E):wpAny (model X.prog X.w) X.A (call (.ref f) us) (EP X pins σ Q) X.xe s:=by
 have r2:Vals (vs++dvs) (us++ds):=r.append hd
 have hl:(us++ds).length=ps.length:=by rw[<-r2.length];exact F.len _ _ _ _ h
 refine wpAny_call (codeAny_mono (F.run X.A X.stack s H ⟨us,[]⟩ (us++ds) (vs++dvs) Q E hr I.env0 (hb s us I.kIn hl) r2 h) λr s' hq=>?_)
 cases r with
 |error e=>exact hx pins σ H s e s' I hq
 |ok fl=>
  cases fl with
  |ret u=>exact I.after hq
  |next=>exact False.elim hq
  |brk=>exact False.elim hq
  |cont=>exact False.elim hq
theorem uV (F:FnOk X.prog X.w X.K X.mg X.base CX k f fd ps sp)(hr:Room k X.A)(hg:Gl X x)(hm:X.mg x=some (.ref f))(hk:keepIn X.K (.ref f)=true)(hb:Binds X.K fd ps ds)(hd:Vals dvs ds)(hx:Passes CX X E)
  (ha:PA X (e::es) t) (hdb:(x==("__debug__" : Str))=false:=by decide) (he:starEach (e::es) X.env=(false,eval e X.env)::starEach es X.env:=by rfl) (hpl:(backTo pos (starEach es X.env)).any (·.1)=false:=by rfl) :
  PE X (.Call (.Name x p) (e::es) [] pos) (tCall sp dvs E t):=by
 intro pins s σ H Q I h
 refine wpAny_Call_Name_kw (yv I hg hm ?_ hdb)
 refine PySem.W.callWith_K (h₀:=X.base) I.ok.mod.kin hk (thn (ha pos pins s σ H _ I h) λus s1 ⟨vs,H1,I1,r,q⟩=>⟨I1.kIn,?_⟩) he hpl
 exact jG F hr hb hd hx I1 r q
theorem WC {pl:Sem Bool}(he:PE X o ta)(c:Cls X.K C)(hm:Meth X.K C m f)(F:FnOk X.prog X.w X.K X.mg X.base CX k f fd ps sp)(hr:Room k X.A)(hb:Binds X.K fd ps ds)(hd:Vals dvs ds)(hx:Passes CX X E)(ha:PA X (e::es) t)
  (hst:starEach (e::es) X.env=(false,eval e X.env)::starEach es X.env:=by rfl) (hpl:(backTo pos (starEach es X.env)).any (·.1)=false:=by rfl)
  (ht:eval (.Call (.Attribute o m apos) (e::es) [] pos) X.env=(do
   let ov <-eval o X.env
   standAt apos.atName
   let (f,first) <-holding [ov] (getMethod ov m pl)
   callWith pos f first (backTo pos (starEach (e::es) X.env)) (backToKw pos (keywordEach [] X.env))):=by rfl) :
  PE X (.Call (.Attribute o m apos) (e::es) [] pos) (tMeth C m sp dvs E ta t):=by
 intro pins s σ H Q I h
 refine PySem.W.methodCall_KW (pl:=pl) (thn (he pins s σ H _ I h) λu s1 ⟨x,H1,I1,rx,a,dx,fs,ex,ea,l,q⟩=>?_) ht
 subst ex
 obtain rfl:u=Value.ref a:=rx
 refine qY I1 ea c hm l ?_
 refine PySem.W.callWith_K (first:=[.ref a]) (h₀:=X.base) I.ok.mod.kin hm.kp (thn (ha pos pins s1 σ H1 _ I1 q) λus s2 ⟨vs,H2,I2,r,q2⟩=>⟨I2.kIn,?_⟩) hst hpl
 exact jG (us:=.ref a::us) (vs:=.ref a::vs) F hr hb hd hx I2 (.cons rfl r) q2
theorem Y8 {pl:Sem Bool}(he:PE X o ta)(c:Cls X.K C)(hm:Meth X.K C m f)(F:FnOk X.prog X.w X.K X.mg X.base CX k f fd ps sp)(hr:Room k X.A)(hb:Binds X.K fd ps ds)(hd:Vals dvs ds)(hx:Passes CX X E)
  (ht:eval (.Call (.Attribute o m apos) [] [] pos) X.env=(do
   let ov <-eval o X.env
   standAt apos.atName
   let (f,first) <-holding [ov] (getMethod ov m pl)
   callWith pos f first (backTo pos (starEach [] X.env)) (backToKw pos (keywordEach [] X.env))):=by rfl) :
  PE X (.Call (.Attribute o m apos) [] [] pos) (tMeth C m sp dvs E ta tNil):=by
 intro pins s σ H Q I h
 refine PySem.W.methodCall_KW (pl:=pl) (thn (he pins s σ H _ I h) λu s1 ⟨x,H1,I1,rx,a,dx,fs,ex,ea,l,q⟩=>?_) ht
 subst ex
 obtain rfl:u=Value.ref a:=rx
 refine qY I1 ea c hm l ?_
 exact PySem.W.callWith_K0 (first:=[.ref a]) I1.kIn hm.kp (jG (us:=[.ref a]) (vs:=[.ref a]) F hr hb hd hx I1 (.cons rfl .nil) q)
structure Mk (K:PySem.W.Frag)(C f:Addr):Prop where
 makes:PySem.W.makesIn K C=true
 init:findIn K (.ref C) "__init__" = some (some (.ref f))
 fn:PySem.W.isFn K (.ref f)=true
 kp:keepIn K (.ref C)=true
theorem JJ {pins:List (Addr×Obj)}{σ:St}{H:Hp}{s:Shared}{Q:VK}{us:List Value}{vs:List V}(M:Mk X.K C f)(F:FnOk X.prog X.w X.K X.mg X.base CX k f fd ps sp)(hr:Room (k+1) X.A)(hb:Binds X.K fd ps ds)(hd:Vals dvs ds)
  (hx:Passes CX X E) (I:Inv X pins σ H s) (r:Vals vs us)
  (h:∀x dx,H x=none->H dx=none->dx≠x->sp (.ref x::(vs++dvs)) (upd (upd H dx (.own x)) x (.ins C dx [])) (λv H2=>v=.non/\Q (.ref x) H2) E) :
  wpAny (model X.prog X.w) X.A (call (.ref C) us) (EP X pins σ Q) X.xe s:=by
 have hq:=h (s.heap.objs.size+1) s.heap.objs.size (I.hok.fresh (Nat.le_succ _)) (I.hok.fresh (Nat.le_refl _)) (Nat.ne_of_lt (Nat.lt_succ_self _))
 have I2:=Inv.made (C:=C) I
 have r2:Vals (V.ref (s.heap.objs.size+1)::(vs++dvs)) (Value.ref (s.heap.objs.size+1)::(us++ds)):=.cons rfl (r.append hd)
 have hl:(Value.ref (s.heap.objs.size+1)::us++ds).length=ps.length:=by
  have e:=r2.length
  rw[F.len _ _ _ _ hq] at e
  exact e.symm
 refine wpAny_call (uQ (f:=f) I.kIn M.makes M.init (beq_iff_eq.mp M.fn) (codeAny_mono (F.run _ X.stack _ _ ⟨Value.ref (s.heap.objs.size+1)::us,[]⟩ (Value.ref (s.heap.objs.size+1)::(us++ds)) _ _ E (hr.make C us [])
  (I2.env0.make C us []) (hb _ (Value.ref (s.heap.objs.size+1)::us) I2.kIn hl) r2 hq) λr s' hq'=>?_))
 cases r with
 |error e=>exact hx pins σ _ _ e s' I2 hq'
 |ok fl=>
  cases fl with
  |ret u=>
   obtain⟨v,H',I3,rv,ev,q3⟩:=I2.after hq'
   subst ev
   exact⟨rv,⟨V.ref (s.heap.objs.size+1),H',I3,rfl,q3⟩⟩
  |next=>exact False.elim hq'
  |brk=>exact False.elim hq'
  |cont=>exact False.elim hq'
theorem Qg (M:Mk X.K C f)(F:FnOk X.prog X.w X.K X.mg X.base CX k f fd ps sp)(hr:Room (k+1) X.A)(hg:Gl X x)(hm:X.mg x=some (.ref C))(hb:Binds X.K fd ps ds)(hd:Vals dvs ds)(hx:Passes CX X E)
  (ha:PA X (e::es) t) (hdb:(x==("__debug__" : Str))=false:=by decide) (he:starEach (e::es) X.env=(false,eval e X.env)::starEach es X.env:=by rfl) (hpl:(backTo pos (starEach es X.env)).any (·.1)=false:=by rfl) :
  PE X (.Call (.Name x p) (e::es) [] pos) (tMake C sp dvs E t):=by
 intro pins s σ H Q I h
 refine wpAny_Call_Name_kw (yv I hg hm ?_ hdb)
 refine PySem.W.callWith_K (h₀:=X.base) I.ok.mod.kin M.kp (thn (ha pos pins s σ H _ I h) λus s1 ⟨vs,H1,I1,r,q⟩=>⟨I1.kIn,?_⟩) he hpl
 exact JJ M F hr hb hd hx I1 r q
end
section
variable {X:Cx}{CX:CXT}{k:Nat}{f C:Addr}{fd:FuncData}{ps ks:List Str}{sp:Sp}{E:XK}{x m:Str}{p pos apos kpos:Pos}{e o:Expr}{es:List Expr}{kws:List Keyword}{te ta:TE}{t tk:TA}{nm:Option Str}
structure KBinds (K:PySem.W.Frag)(fd:FuncData)(ps ks:List Str)(g:List Value->List Value->List Value)(gV:List V->List V->List V):Prop where
 to:∀(s:Shared) (us ws:List Value),K.In s.heap->(g us ws).length=ps.length->BindsTo s fd ⟨us,ks.zip ws⟩ (ps.zip (g us ws))
 rel:∀ {vs:List V} {us:List Value} {zs:List V} {ws:List Value},Vals vs us->Vals zs ws->Vals (gV vs zs) (g us ws)
variable {g:List Value->List Value->List Value}{gV:List V->List V->List V}
end
structure FnScope (N P:List Str)(sc:Scope):Prop where
 kind:sc.kind=.function
 co:sc.isCoroutine=false
 gen:sc.isGenerator=false
 nd:N.Nodup
 pre:N.take P.length=P
 par:∀x∈P,sc.names.lookup x=some .local∨sc.names.lookup x=some .cell
 nofree:∀y∈sc.names,y.2≠.free
theorem kC {kindOf:Str->Option NameKind}{x:Str}:∀ {binds:List (Str×Value)} {m:Str->Option Value},(∀v,(x,v)∉binds)->bindL kindOf binds m x=m x
 | [],_,_=>rfl
 | (n,v)::r,m,h=>by
  unfold bindL
  rw[kC λw hw=>h w (List.mem_cons_of_mem _ hw)]
  split
  ·have:x≠n:=by rintro rfl;exact h v List.mem_cons_self
   simp[this]
  ·rfl
theorem ur {kindOf:Str->Option NameKind}{x:Str}:∀ {binds:List (Str×Value)} {m:Str->Option Value},(∀v,(x,v)∉binds)->bindC kindOf binds m x=m x
 | [],_,_=>rfl
 | (n,v)::r,m,h=>by
  unfold bindC
  rw[ur λw hw=>h w (List.mem_cons_of_mem _ hw)]
  split
  ·rfl
  ·have:x≠n:=by rintro rfl;exact h v List.mem_cons_self
   simp[this]
theorem uo {kindOf:Str->Option NameKind}{x:Str}{v:Value}:∀ {P:List Str} {vs:List Value} {i:Nat} {m:Str->Option Value},P.Nodup->P[i]?=some x->vs[i]?=some v->kindOf x=some .local ->
  bindL kindOf (P.zip vs) m x=some v
 | [],_,_,_,_,h,_,_=>by simp at h
 |_::_,[],_,_,_,_,h,_=>by simp at h
 |p::P,w::vs,0,m,nd,h1,h2,hk=>by
  simp at h1 h2;subst h1;subst h2
  show bindL kindOf ((p,w)::P.zip vs) m p=_
  unfold bindL
  rw[kC λv hv=>(List.nodup_cons.mp nd).1 (List.of_mem_zip hv).1,if_pos hk]
  simp
 |p::P,w::vs,i+1,m,nd,h1,h2,hk=>by
  show bindL kindOf ((p,w)::P.zip vs) m x=_
  unfold bindL
  exact uo (i:=i) (List.nodup_cons.mp nd).2 (by simpa using h1) (by simpa using h2) hk
theorem ux {kindOf:Str->Option NameKind}{x:Str}{v:Value}:∀ {P:List Str} {vs:List Value} {i:Nat} {m:Str->Option Value},P.Nodup->P[i]?=some x->vs[i]?=some v->kindOf x≠some .local ->
  bindC kindOf (P.zip vs) m x=some v
 | [],_,_,_,_,h,_,_=>by simp at h
 |_::_,[],_,_,_,_,h,_=>by simp at h
 |p::P,w::vs,0,m,nd,h1,h2,hk=>by
  simp at h1 h2;subst h1;subst h2
  show bindC kindOf ((p,w)::P.zip vs) m p=_
  unfold bindC
  rw[ur λv hv=>(List.nodup_cons.mp nd).1 (List.of_mem_zip hv).1,if_neg hk]
  simp
 |p::P,w::vs,i+1,m,nd,h1,h2,hk=>by
  show bindC kindOf ((p,w)::P.zip vs) m x=_
  unfold bindC
  exact ux (i:=i) (List.nodup_cons.mp nd).2 (by simpa using h1) (by simpa using h2) hk
def start (N:List Str)(vs:List V):St:=vs.map some++List.replicate (N.length - vs.length) none
def cxOf (CX:CXT)(P:Program)(w:World)(K:PySem.W.Frag)(mg:Str->Option Value)(base:Heap)(N:List Str)(qual:Str)(scope:Scope)(f:Addr)(cd:Value)(A:Around)(outer:List Env)(s:Shared)(H:Hp)(E:XK):Cx where
 prog:=P
 w:=w
 K:=K
 mg:=mg
 base:=base
 A:=A.deeper (envOfC qual scope s.heap.objs.size f cd)
 N:=N
 s₀:=s
 H₀:=H
 env:=envOfC qual scope s.heap.objs.size f cd
 outer:=outer
 stack:=envOfC qual scope s.heap.objs.size f cd::outer
 ex:=[]
 calm:=true
 fn:=λ_=>true
 pn:=[]
 xe:=λe s'=>wpAny (model P w) (A.deeper (envOfC qual scope s.heap.objs.size f cd)) (leaving (envOfC qual scope s.heap.objs.size f cd) e) (λ_ s''=>CX outer H s E e s'') (λe' s''=>CX outer H s E e' s'') s'
theorem ZZ {sc:Scope}{n:Nat}{x:Str}(h:sc.names.lookup x=some .cell):∃c,(cellsFrom n sc.names []).lookup x=some c:=by
 have q:=PySem.W.cellsFrom_some sc.names n [] (.inl h)
 exact Option.isSome_iff_exists.mp q
theorem Y9 {CX:CXT}{P:Program}{w:World}{K:PySem.W.Frag}{mg:Str->Option Value}{base:Heap}{N ps:List Str}{qual:Str}{scope:Scope}{f:Addr}{cd:Value}{A:Around}{outer:List Env}{s s1:Shared}{H:Hp}{E:XK}{us:List Value}{vs:List V}
  (S:FnScope N ps scope) (hd:A.handled=none) (e0:Env0 P w K mg base A outer s H) (hl:vs.length=ps.length) (r:Vals vs us)
  (x:InCallC s s.heap.objs.size (bindL (envOfC qual scope s.heap.objs.size f cd).kindOf (ps.zip us) λ_=>none) (cellsFrom (s.heap.objs.size+1) scope.names []) (bindC (envOfC qual scope s.heap.objs.size f cd).kindOf (ps.zip us) λ_=>none) s1) :
  Inv (cxOf CX P w K mg base N qual scope f cd A outer s H E) [] (start N vs) H s1:=by
 have hpl:ps.length<=N.length:=by have:=congrArg List.length S.pre;rw[List.length_take] at this;omega
 obtain⟨h1,tk,rfl,hk⟩:=x.done
 have noA:∀b:Addr,b∉(cxOf CX P w K mg base N qual scope f cd A outer s H E).ex:=λb z=>absurd (show b∈([]:List Addr) from z) (by simp)
 refine⟨⟨e0.mod,S.kind,rfl,rfl,Nat.le_refl _,λy z c h1 h2=>?_,λy hy=>?_,λy c _ h=>?_,λ_=>hd,Around.frames_deeper e0.frames,.inr ⟨rfl,rfl⟩,λb z=>absurd z (noA b),e0.bs,e0.bsz,λb _ _=>noA b,λb z=>absurd z (noA b),e0.funs,e0.frf⟩,
  rfl,e0.bare,Un.kept hk,⟨_,x.toInCall.ns,λi y v h1 h2 h3=>?_⟩,λy c h=>⟨_,x.cell y c h⟩,e0.hok.fresh (Nat.le_refl _),λy c h=>?_,λp hp=>absurd (show p∈([]:List (Addr×Obj)) from hp) (by simp),e0.hok.kept hk,?_⟩
 ·exact name_of_addr x.apart (PySem.mem_of_lookup h1) (PySem.mem_of_lookup h2)
 ·have hy:scope.names.lookup y=some .cell∨scope.names.lookup y=some .free:=hy
  rcases hy with hy | hy
  ·exact ZZ hy
  ·exact absurd rfl (S.nofree _ (PySem.mem_of_lookup hy))
 ·exact Nat.le_of_lt (x.above y c (PySem.mem_of_lookup h))
 ·have hi:i < vs.length:=by
   unfold start at h2
   by_cases hi:i < vs.length
   ·exact hi
   ·rw[List.getElem?_append_right (by simpa using hi)] at h2
    rw[List.getElem?_replicate] at h2
    split at h2<;>cases h2
  have ha:vs[i]?=some v:=by
   unfold start at h2
   rw[List.getElem?_append_left (by simpa using hi),List.getElem?_map] at h2
   cases e:vs[i]? with
   |none=>rw[e] at h2;cases h2
   |some a=>rw[e] at h2;cases h2;rfl
  obtain⟨u,hu,rv⟩:=r.get ha
  have hp:ps[i]?=some y:=by
   rw[<-S.pre,List.getElem?_take_of_lt (by omega)];exact h1
  have ndP:ps.Nodup:=by rw[<-S.pre];exact S.nd.sublist (List.take_sublist _ _)
  refine⟨u,rv,?_⟩
  rcases S.par y (List.mem_of_getElem? hp) with k | k
  ·exact .inl ⟨k,uo ndP hp hu k⟩
  ·obtain⟨c,e⟩:=ZZ (n:=s.heap.objs.size+1) k
   refine .inr ⟨.inl k,c,e,?_⟩
   have q:=x.cell y c e
   rw[ux ndP hp hu (by show scope.names.lookup y≠_;rw[k];decide)] at q
   exact q
 ·exact e0.hok.fresh (Nat.le_of_lt (x.above y c (PySem.mem_of_lookup h)))
 ·unfold start
  show _=N.length
  rw[List.length_append,List.length_map,List.length_replicate]
  omega
theorem uk {CX:CXT}{P:Program}{w:World}{K:PySem.W.Frag}{mg:Str->Option Value}{base:Heap}{k:Nat}{f:Addr}{name qual:Str}{params:Arguments}{body:List Stmt}{scope:Scope}{dV kV doc pm cdv ct oc:Value}{an od:Option Addr}
  {osl:Array (Option Value)} {N ps:List Str} {sp:Sp} (lk:K.lookup f=some ⟨oc,od,.func (fnOf name qual params body scope dV kV doc pm an cdv ct),osl⟩) (hcd:codeIn K cdv qual=true) (S:FnScope N ps scope)
  (len:∀vs H Q E,sp vs H Q E->vs.length=ps.length)
  (hbody:∀(A:Around) (outer:List Env) (s:Shared) (H:Hp) (vs:List V) (Q:VK) (E:XK),Room k (A.deeper (envOfC qual scope s.heap.objs.size f cdv))->sp vs H Q E ->
   ∃t,PSs (cxOf CX P w K mg base N qual scope f cdv A outer s H E) body t/\t { nx:=λ_ H'=>Q .non H',rt:=Q } (start N vs) H) :
  FnOk P w K mg base CX (k+1) f (fnOf name qual params body scope dV kV doc pm an cdv ct) ps sp:=by
 refine⟨len,λA outer s H args us vs Q E hr e0 hb r hsp=>?_⟩
 have hl:=len _ _ _ _ hsp
 have KX:K.In s.heap:=e0.mod.kin.keeps λb o e=>(e0.bs b o e).1
 have lim:s.heap.NoLimit:=e0.mod.nolimit.keeps λb o e=>(e0.bs b o e).1
 have hkind:∀y∈ps.zip us,scope.names.lookup y.1=some .local∨(scope.names.lookup y.1=some .cell/\((cellsFrom (s.heap.objs.size+1) scope.names []).lookup y.1).isSome=true):=fun⟨n,v⟩ hy=>by
  rcases S.par n (List.of_mem_zip hy).1 with q | q
  ·exact .inl q
  ·exact .inr ⟨q,PySem.W.cellsFrom_some _ _ _ (.inl q)⟩
 refine codeAny_call_function hr.depth (KX _ _ lk) rfl S.co S.gen rfl (PySem.W.codeRec_of KX hcd) (hb _ _ _ _ ?_)
 refine wpAny_newFunctionEnv_cells S.kind hkind λenv he s1 x=>?_
 subst he
 refine⟨lim.keeps x.toInCall.keep,codeAny_func ?_⟩
 obtain⟨t,ht,hq⟩:=hbody A outer s H vs Q E (hr.deeper _) hsp
 have I:Inv (cxOf CX P w K mg base N qual scope f cdv A outer s H E) [] (start N vs) H s1:=Y9 S hr.hd e0 hl r x
 refine wpAny_mono (ht [] s1 (start N vs) H _ I hq) (λfl s' hs=>?_) λe s' hs=>hs
 have fin:∀ {σ':St} {H':Hp} {v:V} {u:Value},Inv (cxOf CX P w K mg base N qual scope f cdv A outer s H E) [] σ' H' s'->RelV v u->Q v H'->CE outer P w H s Q u s' :=
  fun {σ' H' v u} J rv q=>⟨v,H',J.os,J.bare,J.base,J.hok,rv,q⟩
 cases fl with
 |ret u=>
  obtain⟨v,σ',H',J,rv,q⟩:=hs
  exact fin J rv q
 |next=>
  obtain⟨σ',H',J,q⟩:=hs
  exact fin (v:=V.non) (u:=Value.none) J rfl q
 |brk=>
  obtain⟨_,_,_,q⟩:=hs
  exact False.elim q
 |cont=>
  obtain⟨_,_,_,q⟩:=hs
  exact False.elim q
section
variable {X:Cx}{x:Str}{p pos:Pos}{e:Expr}{es:List Expr}{t:TA}{id T:String}{r:List V->Hp->VK->Prop}
def tCB (r:List V->Hp->VK->Prop)(t:TA):TE:=λσ H Q=>t σ H λvs H1=>r vs H1 Q
theorem jj (hc:CallR X (.builtin id) r)(hg:Gl X x)(hm:X.mg x=none)(hv:bootBuiltins x=some (.builtin id))(ha:PA X (e::es) t)(hn:x ≠ "__name__" := by decide) (hdb:(x==("__debug__" : Str))=false:=by decide)
  (he:starEach (e::es) X.env=(false,eval e X.env)::starEach es X.env:=by rfl) (hpl:(backTo pos (starEach es X.env)).any (·.1)=false:=by rfl):PE X (.Call (.Name x p) (e::es) [] pos) (tCB r t):=by
 intro pins s σ H Q I h
 refine wpAny_Call_Name_kw (vg I hg hm hv ?_ hn hdb)
 exact PyProof.Rows.callWith_builtin1 (thn (ha pos pins s σ H _ I h) λus s1 ⟨vs,H1,I1,r1,q1⟩=>hc pins s1 σ H1 vs us Q I1 r1 q1) he hpl
theorem Yc (hc:CallR X (.type T) r)(hg:Gl X x)(hm:X.mg x=none)(hv:bootBuiltins x=some (.type T))(ha:PA X (e::es) t)(hn:x ≠ "__name__" := by decide) (hdb:(x==("__debug__" : Str))=false:=by decide)
  (he:starEach (e::es) X.env=(false,eval e X.env)::starEach es X.env:=by rfl) (hpl:(backTo pos (starEach es X.env)).any (·.1)=false:=by rfl):PE X (.Call (.Name x p) (e::es) [] pos) (tCB r t):=by
 intro pins s σ H Q I h
 refine wpAny_Call_Name_kw (vg I hg hm hv ?_ hn hdb)
 exact PyProof.Rows.callWith_type1 (thn (ha pos pins s σ H _ I h) λus s1 ⟨vs,H1,I1,r1,q1⟩=>hc pins s1 σ H1 vs us Q I1 r1 q1) he hpl
end
end L2
namespace HT
open PySem PyProof.Rows
section
open PySem.SeqAt
open PySem.AutoSeq1 (wpAny_loadPart')
open PySem.MeetsSeq PySem.MeetsSeq2 PySem.MeetsSeq3
end
section
variable {prog:Program}{w:World}{A:Around}{E:Value->Shared->Prop}{s:Shared}
def sIx (n d:Nat):Option Int->Nat
 |none=>d
 |some v=>if v < 0 then (v+(n:Int)).toNat else min v.toNat n
end
end HT
namespace L2
open PySem PySem.Spec PyProof.Rows
abbrev TO:=St->Hp->(Option Int->Hp->Prop)->Prop
def PO (X:Cx)(e:Option Expr)(t:TO):Prop :=
 ∀(pins:List (Addr×Obj)) (s:Shared) (σ:St) (H:Hp) (Q:Option Int->Hp->Prop),Inv X pins σ H s->t σ H Q ->
  wpAny (model X.prog X.w) X.A (evalPart e X.env) (λu s'=>∃o H',Inv X pins σ H' s'/\IsPart u o/\Q o H') X.xe s
def Vy:TO:=λ_ H Q=>Q none H
def tPart (t:TE):TO:=λσ H Q=>t σ H λx H1=>∃i,x=.int i/\Q (some i) H1
section
variable {X:Cx}{e:Expr}{te:TE}{lo hi:Option Expr}{tl th:TO}{pos p2:Pos}
theorem Kv:PO X none Vy:=by
 intro pins s σ H Q I h
 rw[evalPart_none]
 exact wpAny_pure ⟨none,H,I,.none,h⟩
theorem QN (h:PE X e te):PO X (some e) (tPart te):=by
 intro pins s σ H Q I hw
 rw[evalPart_some]
 refine thn (h pins s σ H _ I hw) λu s1 ⟨x,H1,I1,r1,q1⟩=>?_
 obtain⟨i,rfl,q⟩:=q1
 obtain⟨t,rfl⟩:=r1
 exact⟨some i,H1,I1,.int i t,q⟩
def SlR (X:Cx)(r:V->Option Int->Option Int->Hp->VK->Prop):Prop :=
 ∀(pins:List (Addr×Obj)) (s:Shared) (σ:St) (H:Hp) (x:V) (v vl vu:Value) (lo hi:Option Int) (sl:Addr) (Q:VK),Inv X pins σ H s->RelV x v->s.heap.IsSliceOf sl vl vu .none->IsPart vl lo->IsPart vu hi->r x lo hi H Q ->
  ∃T id,typeLookup (.type T) "__getitem__" = pure (some (.builtin id))/\s.TypeIs v T/\wpAny (model X.prog X.w) X.A (getItem v (.ref sl)) (EP X pins σ Q) X.xe s
def tSl (r:V->Option Int->Option Int->Hp->VK->Prop)(te:TE)(tl th:TO):TE:=λσ H Q=>te σ H λx H1=>tl σ H1 λl H2=>th σ H2 λu H3=>r x l u H3 Q
theorem YX {r:V->Option Int->Option Int->Hp->VK->Prop}(hr:SlR X r)(he:PE X e te)(hl:PO X lo tl)(hu:PO X hi th):PE X (.Subscript e (.Slice lo hi none p2) pos) (tSl r te tl th):=by
 intro pins s σ H Q I h
 refine Subscript_ (thn (he pins s σ H _ I h) λv s1 ⟨x,H1,I1,r1,q1⟩=>?_)
 refine wpAny_Slice (thn (hl pins s1 σ H1 _ I1 q1) λvl s2 ⟨l,H2,I2,pl,q2⟩=>thn (hu pins s2 σ H2 _ I2 q2) λvu s3 ⟨u,H3,I3,pu,q3⟩=>?_)
 rw[evalPart_none]
 refine wpAny_pure ?_
 have I4:Inv X pins σ H3 { s3 with heap:=s3.heap.push { cls:=.type "slice",data:=.fields #[vl,vu,.none] } }:=I3.kept (t':=s3.toks) λb ob q=>Heap.get?_push_of_some _ q
 obtain⟨T,id,hT,ht,hg⟩:=hr pins { s3 with heap:=s3.heap.push { cls:=.type "slice",data:=.fields #[vl,vu,.none] } } σ H3 x v vl vu l u s3.heap.objs.size Q I4 r1 (Heap.IsSliceOf.new ..) pl pu q3
 show wpAny (model X.prog X.w) X.A (subscriptTail e (.Slice lo hi none p2) v (.ref s3.heap.objs.size)) (EP X pins σ Q) X.xe { s3 with heap:=s3.heap.push { cls:=.type "slice",data:=.fields #[vl,vu,.none] } }
 exact tail_any (ops:=[.ref s3.heap.objs.size,v]) ht hT hg (by with_unfolding_all rfl)
def cutV (xs:List V)(lo hi:Option Int):List V:=(xs.drop (HT.sIx xs.length 0 lo)).take (HT.sIx xs.length xs.length hi - HT.sIx xs.length 0 lo)
theorem Wf (xs:List V)(lo hi:Option Int):(cutV xs lo hi).length<=xs.length:=by
 unfold cutV
 rw[List.length_take,List.length_drop]
 omega
end
def ixN (n:Nat)(i:Int):Option Nat:=if 0<=i then (if i < n then some i.toNat else none) else if -(n:Int)<=i then some (i+n).toNat else none
def atI {α:Type}(xs:List α)(i:Int):Option α:=(ixN xs.length i).bind λj=>xs[j]?
theorem Zm {n:Nat}{i:Int}{j:Nat}(h:ixN n i=some j):seqIndex? i n=some j/\j < n/\-(n:Int)<=i/\i < n:=by
 unfold ixN at h
 by_cases h0:0<=i
 ·rw[if_pos h0] at h
  by_cases h1:i < n
  ·rw[if_pos h1] at h
   have e:i.toNat=j:=Option.some.inj h
   exact⟨by rw[seqIndex_of h0 h1,e],by omega,by omega,h1⟩
  ·rw[if_neg h1] at h;cases h
 ·rw[if_neg h0] at h
  by_cases h1:-(n:Int)<=i
  ·rw[if_pos h1] at h
   have e:(i+n).toNat=j:=Option.some.inj h
   exact⟨by rw[seqIndex_neg (by omega) h1,e],by omega,h1,by omega⟩
  ·rw[if_neg h1] at h;cases h
theorem qV {α:Type}{xs:List α}{i:Int}{v:α}(h:atI xs i=some v):∃j,seqIndex? i xs.length=some j/\xs[j]?=some v/\j < xs.length/\-(xs.length:Int)<=i/\i < xs.length:=by
 unfold atI at h
 cases e:ixN xs.length i with
 |none=>rw[e] at h;cases h
 |some j=>
  rw[e] at h
  obtain⟨h1,h2,h3,h4⟩:=Zm e
  exact⟨j,h1,h,h2,h3,h4⟩
theorem atI_nat {α:Type}{xs:List α}{j:Nat}{v:α}(h:xs[j]?=some v):atI xs (j:Int)=some v:=by
 have hj:j < xs.length:=(List.getElem?_eq_some_iff.mp h).1
 have e:ixN xs.length (j:Int)=some j:=by
  unfold ixN
  rw[if_pos (by omega),if_pos (by omega)];simp
 unfold atI;rw[e];exact h
def jV (b:Expr):Prop:=∀o i,subscripted b false o i=operate [o,i] (getItem o i)
def IxR (X:Cx)(r:R2):Prop :=
 ∀(value slice:Expr) (pins:List (Addr×Obj)) (s:Shared) (σ:St) (H:Hp) (x y:V) (v u:Value) (Q:VK),Inv X pins σ H s->RelV x v->RelV y u->r x y H Q ->
  subscripted slice false v u=operate [v,u] (getItem v u)->wpAny (model X.prog X.w) X.A (subscriptTail value slice v u) (EP X pins σ Q) X.xe s
def MtR (X:Cx)(id:String)(r:V->List V->Hp->VK->Prop):Prop :=
 ∀(pins:List (Addr×Obj)) (s:Shared) (σ:St) (H:Hp) (x:V) (xs:List V) (v:Value) (us:List Value) (Q:VK),Inv X pins σ H s->RelV x v->Vals xs us->r x xs H Q ->
  wpAny (model X.prog X.w) X.A (call (.builtin id) (v::us)) (EP X pins σ Q) X.xe s
section
variable {X:Cx}{a b:Expr}{ta tb:TE}{pos:Pos}
theorem IxR.or {r r':R2}(h:IxR X r)(h':IxR X r'):IxR X (λx y H Q=>r x y H Q∨r' x y H Q):=by
 intro value slice pins s σ H x y v u Q I rx ry q hs
 rcases q with q | q
 ·exact h value slice pins s σ H x y v u Q I rx ry q hs
 ·exact h' value slice pins s σ H x y v u Q I rx ry q hs
theorem Jf {r:R2}(hr:IxR X r)(ha:PE X a ta)(hb:PE X b tb)(hs:jV b):PE X (.Subscript a b pos) (tOp r ta tb):=by
 intro pins s σ H Q I h
 exact Subscript_ (binT ha hb I h λv u s2 x y H2 I2 rx ry q=>hr a b pins s2 σ H2 x y v u Q I2 rx ry q (hs _ _))
def rIxL (K:PySem.W.Frag):R2:=λx y H Q=>∃p xs i v,x=.ref p/\y=.int i/\SqL K H p xs/\atI xs i=some v/\Q v H
def rIxT (K:PySem.W.Frag):R2:=λx y H Q=>∃p xs i v,x=.ref p/\y=.int i/\SqT K H p xs/\atI xs i=some v/\Q v H
def rIxS:R2:=λx y H Q=>∃z i c,x=.str z/\y=.int i/\z.length<=sizeLine/\atI z.cps.toList i=some c/\Q (.str ⟨#[c]⟩) H
theorem ix_list:IxR X (rIxL X.K):=by
 intro value slice pins s σ H x y v u Q I rx ry h hs
 obtain⟨p,xs,i,z,rfl,rfl,hq,he,q⟩:=h
 cases rx
 obtain⟨t,rfl⟩:=ry
 obtain⟨its,r,pl,hz⟩:=I.list hq
 obtain⟨j,h1,h2,h3,h4,h5⟩:=qV he
 obtain⟨w,ew,rw'⟩:=r.get h2
 have hl:=r.length
 have hn:=line63
 have fin:EP X pins σ Q w s:=⟨z,H,I,rw',q⟩
 by_cases h0:0<=i
 ·have hj:i.toNat=j:=by
   rw[seqIndex_of h0 h5] at h1
   exact Option.some.inj h1
  exact item_listR pl.isList h0 (by omega) (by rw[hj];simpa using ew) fin hs
 ·have hj:(i+(its.toArray.size:Int)).toNat=j:=by
   rw[seqIndex_neg (by omega) h4] at h1
   rw[List.size_toArray,<-hl]
   exact Option.some.inj h1
  exact subscriptTail_builtinR (x:=w) pl.isList.typeIs slot_list_getitem.lookup
   (wpAny_getItem_list_neg (Q:=λr s'=>r=w/\EP X pins σ Q r s') pl.isList (by omega) (by rw[List.size_toArray]<;>omega) (by omega) (by rw[hj];simpa using ew) ⟨rfl,fin⟩) hs
theorem ix_tup:IxR X (rIxT X.K):=by
 intro value slice pins s σ H x y v u Q I rx ry h hs
 obtain⟨p,xs,i,z,rfl,rfl,hq,he,q⟩:=h
 cases rx
 obtain⟨t,rfl⟩:=ry
 obtain⟨its,r,pl,hz⟩:=I.tuple hq
 obtain⟨j,h1,h2,h3,h4,h5⟩:=qV he
 obtain⟨w,ew,rw'⟩:=r.get h2
 have hl:=r.length
 have hn:=line63
 have fin:EP X pins σ Q w s:=⟨z,H,I,rw',q⟩
 exact subscriptTail_builtinR (x:=w) pl.typeIs slot_tuple_getitem.lookup
  (getItem_tuple (j:=j) (Q:=λr s'=>r=w/\EP X pins σ Q r s') pl (by omega) (by omega) (by rw[List.size_toArray,<-hl];exact h1) (by simpa using ew) ⟨rfl,fin⟩) hs
theorem K5:IxR X rIxS:=by
 intro value slice pins s σ H x y v u Q I rx ry h hs
 obtain⟨z,i,c,rfl,rfl,hz,he,q⟩:=h
 obtain⟨t,rfl⟩:=rx
 obtain⟨t',rfl⟩:=ry
 obtain⟨j,h1,h2,h3,h4,h5⟩:=qV he
 have hl:z.cps.toList.length=z.length:=by simp[Str.length]
 rw[hl] at h1 h4 h5
 have hn:=line63
 exact tail_any (typeIs_str s z t) slot_str_getitem.lookup (getItem_str (c:=c) (by
  have e1:decide (i < -(2 ^ 63:Int))=false:=decide_eq_false (by omega)
  have e2:decide (i≥2 ^ 63)=false:=decide_eq_false (by omega)
  rw[e1,e2,Bool.or_false]) (by rw[h1];simpa using h2) ⟨.str ⟨#[c]⟩,H,I.tok _,⟨_,rfl⟩,q⟩) hs
def rIx (K:PySem.W.Frag):R2:=λx y H Q=>rIxL K x y H Q∨rIxT K x y H Q∨rIxS x y H Q
theorem Wh:IxR X (rIx X.K):=ix_list.or (ix_tup.or K5)
theorem YH (its:List Value)(n j:Nat)(u:Value):Obj.mapSeq (·.setIfInBounds j u) { cls:=.type "list",data:=.seq its.toArray n }={ cls:=.type "list",data:=.seq (its.set j u).toArray n }:=by
 simp[Obj.mapSeq]
theorem Inv.lst {pins:List (Addr×Obj)}{σ:St}{H:Hp}{s:Shared}{p:Addr}{xs:List V}(I:Inv X pins σ H s)(h:H p=some (.lst xs)) :
  ∃(its:List Value) (n:Nat),Vals xs its/\s.heap.get? p=some { cls:=.type "list",data:=.seq its.toArray n }/\xs.length<=sizeLine:=by
 obtain⟨z,its,n,r,e⟩:=I.hok p _ h
 exact⟨its,n,r,e,z⟩
theorem Inv.lstUpd {pins:List (Addr×Obj)}{σ:St}{H:Hp}{s:Shared}{p:Addr}{xs ys:List V}{its its':List Value}{n n':Nat}{f:Obj->Obj}(I:Inv X pins σ H s)(h:H p=some (.lst xs))
  (ho:s.heap.get? p=some { cls:=.type "list",data:=.seq its.toArray n }) (hf:f { cls:=.type "list",data:=.seq its.toArray n }={ cls:=.type "list",data:=.seq its'.toArray n' }) (r:Vals ys its') (hz:ys.length<=sizeLine) (t:Nat) :
  Inv X pins σ (upd H p (.lst ys)) { s with heap:=s.heap.update p f,toks:=t }:=by
 have e:(s.heap.update p f).get? p=some { cls:=.type "list",data:=.seq its'.toArray n' }:=by
  rw[Heap.get?_update_self f ho (by rw[hf]<;>rfl),hf]
 refine I.write (x:=p) (e:=p) (by rw[h];trivial) (.inl rfl) (λb u hb q=>(Heap.get?_update_other _ _ (Ne.symm hb)).trans q) ⟨_,e⟩ ?_
 exact⟨hz,its',n',r,e⟩
def rSetL:V->V->V->Hp->(Hp->Prop)->Prop:=λo i v H Q=>∃p xs k j,o=.ref p/\i=.int k/\H p=some (.lst xs)/\ixN xs.length k=some j/\Q (upd H p (.lst (xs.set j v)))
theorem WZ:PSet X rSetL:=by
 intro pins s σ H o i v ov iv u Q I ro ri rv h
 obtain⟨p,xs,k,j,rfl,rfl,hp,hj,q⟩:=h
 cases ro
 obtain⟨t,rfl⟩:=ri
 obtain⟨its,n,r,ho,hz⟩:=I.lst hp
 obtain⟨h1,h2,h3,h4⟩:=Zm hj
 have hl:=r.length
 have hn:=line63
 have I':Inv X pins σ (upd H p (.lst (xs.set j v))) { s with heap:=s.heap.update p (Obj.mapSeq (·.setIfInBounds j u)) } :=
  I.lstUpd hp ho (YH its n j u) (r.set rv j) (by rw[List.length_set];exact hz) s.toks
 by_cases h0:0<=k
 ·have hk:k.toNat=j:=by
   rw[seqIndex_of h0 h4] at h1
   exact Option.some.inj h1
  exact PySem.W.ki_setAt ho h0 (by omega) (by rw[List.size_toArray,<-hl];exact h4) (by rw[hk];exact⟨_,I',q⟩)
 ·have hk:(k+(its.toArray.size:Int)).toNat=j:=by
   rw[seqIndex_neg (by omega) h3] at h1
   rw[List.size_toArray,<-hl]
   exact Option.some.inj h1
  exact PySem.W.ki_setBack ho (by omega) (by rw[List.size_toArray,<-hl];exact h3) (by omega) (by rw[hk];exact⟨_,I',q⟩)
theorem JQ (lo hi:Option Int)(n:Nat):(sliceBounds lo hi none n).1=((HT.sIx n 0 lo:Nat):Int)/\(sliceBounds lo hi none n).2.1=((HT.sIx n n hi:Nat):Int)/\(sliceBounds lo hi none n).2.2=1:=by
 refine⟨?_,?_,rfl⟩
 ·cases lo with
  |none=>simp[sliceBounds,HT.sIx]
  |some i=>
   simp only[sliceBounds,HT.sIx,Option.getD_none,show (1:Int) > 0 by decide,if_true]
   by_cases h:i < 0
   ·simp only[h,if_true]<;>omega
   ·simp only[h,if_false]<;>omega
 ·cases hi with
  |none=>simp[sliceBounds,HT.sIx]
  |some i=>
   simp only[sliceBounds,HT.sIx,Option.getD_none,show (1:Int) > 0 by decide,if_true]
   by_cases h:i < 0
   ·simp only[h,if_true]<;>omega
   ·simp only[h,if_false]<;>omega
theorem JT (its:List Value)(lo hi:Option Int):slicePick its.toArray lo hi none=((its.drop (HT.sIx its.length 0 lo)).take (HT.sIx its.length its.length hi - HT.sIx its.length 0 lo)).toArray:=by
 obtain⟨h1,h2,h3⟩:=JQ lo hi its.toArray.size
 unfold slicePick
 rw[h1,h2,h3]
 simp only[sliceRange_one,pick_run,List.size_toArray]<;>rfl
def rSlL (K:PySem.W.Frag):V->Option Int->Option Int->Hp->VK->Prop:=λx lo hi H Q=>∃a xs,x=.ref a/\SqL K H a xs/\∀p,H p=none->Q (.ref p) (upd H p (.lst (cutV xs lo hi)))
theorem Kc:SlR X (rSlL X.K):=by
 intro pins s σ H x v vl vu lo hi sl Q I rx hs pl pu h
 obtain⟨a,xs,rfl,hx,q⟩:=h
 cases rx
 obtain⟨its,r,ht,hz⟩:=I.list hx
 have hlen:=r.length
 refine⟨"list",_,slot_list_getitem.lookup,ht.isList.typeIs,?_⟩
 refine wpAny_getItem_list_slice ht.isList hs pl pu .none (by simp) ?_ (by rw[List.size_toArray]<;>omega)
 rw[JT,<-hlen]
 refine⟨.ref s.heap.objs.size,_,I.laid (t':=s.toks) (o:=.lst (cutV xs lo hi)) (λb ob q=>Heap.get?_push_of_some _ q) (Nat.le_refl _) ?_,rfl,q _ (I.hok.fresh (Nat.le_refl _))⟩
 exact⟨Nat.le_trans (Wf xs lo hi) hz,_,0,(r.drop (HT.sIx xs.length 0 lo)).take (HT.sIx xs.length xs.length hi - HT.sIx xs.length 0 lo),Heap.get?_push_size _ rfl⟩
def flatV:V->Bool
 |.non=>true
 |.bl _=>true
 |.int _=>true
 |.str _=>true
 |_=>false
def eqV:V->V->Bool
 |.non,.non=>true
 |.bl a,.bl b=>a==b
 |.bl a,.int b=>(if a then 1 else 0)==b
 |.int a,.bl b=>a==(if b then 1 else 0)
 |.int a,.int b=>a==b
 |.str a,.str b=>a==b
 |_,_=>false
theorem WT {A:Around}{s:Shared}{y x:V}{u v:Value}(ry:RelV y u)(rx:RelV x v)(fy:flatV y=true)(fx:flatV x=true):SeqAt.EqAt A s u v (eqV y x):=by
 cases y with
 |non=>
  cases ry
  cases x with
  |non=>cases rx;exact SeqAt.EqAt.same _
  |bl b=>cases rx;exact SeqAt.EqAt.none_bool b
  |int b=>obtain⟨t,rfl⟩:=rx;exact SeqAt.EqAt.none_int b t
  |str b=>obtain⟨t,rfl⟩:=rx;exact SeqAt.EqAt.none_str b t
  |_=>exact absurd (show false=true from fx) Bool.false_ne_true
 |bl a=>
  cases ry
  cases x with
  |non=>cases rx;exact SeqAt.EqAt.bool_none a
  |bl b=>cases rx;exact SeqAt.EqAt.bool_bool a b
  |int b=>obtain⟨t,rfl⟩:=rx;exact SeqAt.EqAt.bool_int a b t
  |str b=>obtain⟨t,rfl⟩:=rx;exact SeqAt.EqAt.bool_str a b t
  |_=>exact absurd (show false=true from fx) Bool.false_ne_true
 |int a=>
  obtain⟨t',rfl⟩:=ry
  cases x with
  |non=>cases rx;exact SeqAt.EqAt.int_none a t'
  |bl b=>cases rx;exact SeqAt.EqAt.int_bool a t' b
  |int b=>obtain⟨t,rfl⟩:=rx;exact SeqAt.EqAt.int_int a t' b t
  |str b=>obtain⟨t,rfl⟩:=rx;exact SeqAt.EqAt.int_str a t' b t
  |_=>exact absurd (show false=true from fx) Bool.false_ne_true
 |str a=>
  obtain⟨t',rfl⟩:=ry
  cases x with
  |non=>cases rx;exact SeqAt.EqAt.str_none a t'
  |bl b=>cases rx;exact SeqAt.EqAt.str_bool a t' b
  |int b=>obtain⟨t,rfl⟩:=rx;exact SeqAt.EqAt.str_int a t' b t
  |str b=>obtain⟨t,rfl⟩:=rx;exact SeqAt.EqAt.str_str a t' b t
  |_=>exact absurd (show false=true from fx) Bool.false_ne_true
 |_=>exact absurd (show false=true from fy) Bool.false_ne_true
def eqU (x:V)(u:Value):Bool:=match u with
 |.none=>eqV .non x
 |.bool b=>eqV (.bl b) x
 |.int i _=>eqV (.int i) x
 |.str z _=>eqV (.str z) x
 |_=>false
theorem uR {x y:V}{u:Value}(r:RelV y u)(f:flatV y=true):eqU x u=eqV y x:=by
 cases y with
 |non=>cases r;rfl
 |bl b=>cases r;rfl
 |int i=>obtain⟨t,rfl⟩:=r;rfl
 |str z=>obtain⟨t,rfl⟩:=r;rfl
 |_=>exact absurd (show false=true from f) Bool.false_ne_true
theorem qD {x:V}:∀ {xs:List V} {us:List Value},Vals xs us->xs.all flatV=true->us.any (eqU x)=xs.any λy=>eqV y x
 |_,_,.nil,_=>rfl
 |y::xs,u::us,.cons r t,f=>by
  rw[List.all_cons,Bool.and_eq_true] at f
  rw[List.any_cons,List.any_cons,uR r f.1,qD t f.2]
theorem jQ {A:Around}{s:Shared}{x:V}{v:Value}(rx:RelV x v)(fx:flatV x=true):∀ {xs:List V} {us:List Value},Vals xs us->xs.all flatV=true->∀u∈us,SeqAt.EqAt A s u v (eqU x u)
 |_,_,.nil,_=>λu hu=>by cases hu
 |y::xs,u::us,.cons r t,f=>λu' hu=>by
  rw[List.all_cons,Bool.and_eq_true] at f
  rcases List.mem_cons.mp hu with rfl | hu
  ·rw[uR r f.1];exact WT r rx f.1 fx
  ·exact jQ rx fx t f.2 u' hu
def inV (x:V)(xs:List V):Bool:=xs.any λy=>eqV y x
def rIn (K:PySem.W.Frag)(neg:Bool):R2:=λx y H Q=>∃p xs,y=.ref p/\(SqL K H p xs∨SqT K H p xs)/\flatV x=true/\xs.all flatV=true/\Q (.bl (if neg then !inV x xs else inV x xs)) H
theorem op_in_seq:OpR X (compareOp .In) (rIn X.K false):=by
 intro pins s σ H x y v u Q I rx ry h
 obtain⟨p,xs,rfl,hq,fx,fs,q⟩:=h
 cases ry
 rcases hq with hq | hq
 ·obtain⟨its,r,pl,hz⟩:=I.list hq
  refine SeqAt.in_listAt (eqU x) pl.isList (λw hw=>jQ rx fx r fs w (by simpa using hw)) ⟨.bl _,H,I,rfl,?_⟩
  rw[show its.toArray.any (eqU x)=its.any (eqU x) by simp,qD r fs]
  exact q
 ·obtain⟨its,r,pl,hz⟩:=I.tuple hq
  refine SeqAt.in_tupleAt (eqU x) pl (λw hw=>jQ rx fx r fs w (by simpa using hw)) ⟨.bl _,H,I,rfl,?_⟩
  rw[show its.toArray.any (eqU x)=its.any (eqU x) by simp,qD r fs]
  exact q
theorem Qv:CallR X (.type "tuple") (λxs H Q=>∃p ys,xs=[.ref p]/\((SqL X.K H p ys/\∀l,H l=none->Q (.ref l) (upd H l (.tup ys)))∨(SqT X.K H p ys/\Q (.ref p) H))):=by
 intro pins s σ H xs us Q I r h
 obtain⟨p,ys,rfl,h⟩:=h
 obtain⟨u,rfl,rx⟩:=vals1 r
 cases rx
 rcases h with⟨hq,q⟩ | ⟨hq,q⟩
 ·obtain⟨its,r',pl,hz⟩:=I.list hq
  have hlen:=r'.length
  refine call_tuple_list pl.isList (λh' kp=>?_) (by simp only[List.size_toArray]<;>omega)
  have I1:Inv X pins σ H { s with heap:=h' }:=I.kept (t':=s.toks) kp
  have I2:Inv X pins σ (upd H h'.objs.size (.tup ys)) { s with heap:=h'.push { cls:=.type "tuple",data:=.seq its.toArray } } :=
   I1.laid (t':=s.toks) (λb o e=>Heap.get?_push_of_some _ e) (Nat.le_refl _) (show ObjOk X.prog X.w _ _ _ (.tup ys) from⟨hz,its,r',IsTup.new _ _⟩)
  exact⟨.ref h'.objs.size,_,I2,rfl,q _ (I1.hok.fresh (Nat.le_refl _))⟩
 ·obtain⟨its,r',pl,hz⟩:=I.tuple hq
  exact call_tuple_same pl ⟨.ref p,H,I,rfl,q⟩
def tyV (K:PySem.W.Frag)(T:String)(x:V)(H:Hp):Prop:=match x with
 |.str _=>T = "str"
 |.int _=>T = "int"
 |.ref p=>(T = "list" /\ ∃xs,SqL K H p xs)∨(T = "tuple" /\ ∃o,K.lookup p=some o/\o.cls=.type "tuple" /\ o.dict=none) ∨
   (T = "dict" /\ ((∃kvs,H p=some (.dK kvs))∨∃kvs,H p=some (.dT kvs)))∨(T = "set" /\ ∃S n,H p=some (.set S n))
 |_=>False
theorem uU {pins:List (Addr×Obj)}{σ:St}{H:Hp}{s:Shared}{T:String}{x:V}{v:Value}(I:Inv X pins σ H s)(r:RelV x v)(ty:tyV X.K T x H) :
  s.TypeIs v T/\∀a,v=.ref a->∃ob,s.heap.get? a=some ob/\ob.dict=none:=by
 cases x with
 |str z=>
  obtain⟨t,rfl⟩:=r
  cases (show T = "str" from ty)
  exact⟨typeIs_str s z t,λ_ e=>nomatch e⟩
 |int i=>
  obtain⟨t,rfl⟩:=r
  cases (show T = "int" from ty)
  exact⟨typeIs_int s i t,λ_ e=>nomatch e⟩
 |ref p=>
  cases r
  rcases ty with⟨rfl,xs,hq⟩ | ⟨rfl,o,hk,hc,hd⟩ | ⟨rfl,hk⟩ | ⟨rfl,S,n,hk⟩
  ·obtain⟨its,_,pl,_⟩:=I.list hq
   refine⟨pl.isList.typeIs,λa e=>?_⟩
   cases e
   obtain⟨o,n,e,c,hd,_⟩:=pl
   exact⟨o,e,hd⟩
  ·refine⟨⟨o,I.kIn p o hk,hc⟩,λa e=>?_⟩
   cases e
   exact⟨o,I.kIn _ o hk,hd⟩
  ·have z:∃o,s.heap.get? p=some o/\o.ExactDict:=by
    rcases hk with⟨kvs,hk⟩ | ⟨kvs,hk⟩
    ·obtain⟨_,_,_,_,o,_,_,e,ex,_⟩:=I.hok p _ hk
     exact⟨o,e,ex⟩
    ·obtain⟨_,_,_,_,o,_,_,e,ex,_⟩:=I.hok p _ hk
     exact⟨o,e,ex⟩
   obtain⟨o,e,ex⟩:=z
   refine⟨⟨o,e,ex.1⟩,λa e2=>?_⟩
   cases e2
   exact⟨o,e,ex.2.1⟩
  ·obtain⟨o,_,_,_,e,ex,_⟩:=I.hok p _ hk
   refine⟨⟨o,e,ex.1⟩,λa e2=>?_⟩
   cases e2
   exact⟨o,e,ex.2.1⟩
 |_=>exact False.elim ty
def tBM0 (K:PySem.W.Frag)(T:String)(r:V->List V->Hp->VK->Prop)(to:TE):TE:=λσ H Q=>to σ H λx H1=>tyV K T x H1/\r x [] H1 Q
def tBM (K:PySem.W.Frag)(T:String)(r:V->List V->Hp->VK->Prop)(to:TE)(t:TA):TE:=λσ H Q=>to σ H λx H1=>tyV K T x H1/\t σ H1 λxs H2=>r x xs H2 Q
variable {o e:Expr}{es:List Expr}{to:TE}{t:TA}{name:Str}{apos cpos:Pos}{T id:String}{r:V->List V->Hp->VK->Prop}
theorem Ub (pa:PlainAttrs T)(slot:Slot T name id)(hty:typeOf (.builtin id)=pure (.type "method_descriptor")) (hm:MtR X id r) (ho:PE X o to)
  (hbase:attributeBase o name X.env (eval o X.env)=eval o X.env:=by rfl) (hline:(apos.endLine==cpos.line)=true:=by rfl):PE X (.Call (.Attribute o name apos) [] [] cpos) (tBM0 X.K T r to):=by
 intro pins s σ H Q I h
 refine wpAny_Call_method0_late hbase hline (thn (ho pins s σ H _ I h) λv s1 ⟨x,H1,I1,r1,ty,q1⟩=>?_)
 obtain⟨h1,h2⟩:=uU I1 r1 ty
 exact⟨T,id,pa,slot,hty,h1,h2,Calls.callWith_builtin rfl (PySem.evalArgs_none (hm pins s1 σ H1 x [] v [] Q I1 r1 .nil q1))⟩
theorem uj (pa:PlainAttrs T)(slot:Slot T name id)(hty:typeOf (.builtin id)=pure (.type "method_descriptor")) (hm:MtR X id r) (ho:PE X o to) (ha:PA X (e::es) t)
  (hbase:attributeBase o name X.env (eval o X.env)=eval o X.env:=by rfl)
  (hfew:((backTo cpos (starEach (e::es) X.env)).all (λx=>!x.1)&&(backToKw cpos (keywordEach [] X.env)).all (λx=>x.1.isSome)
   && decide ((e::es).length+([]:List Keyword).length+(if ([]:List Keyword).isEmpty then 0 else 1) < 30))=true:=by rfl)
  (hline:(apos.endLine==cpos.line)=true:=by rfl) (hs:starEach (e::es) X.env=(false,eval e X.env)::starEach es X.env:=by rfl) (hplain:(backTo cpos (starEach es X.env)).any (·.1)=false:=by rfl) :
  PE X (.Call (.Attribute o name apos) (e::es) [] cpos) (tBM X.K T r to t):=by
 intro pins s σ H Q I h
 refine wpAny_Call_method_late hbase hfew hline rfl (thn (ho pins s σ H _ I h) λv s1 ⟨x,H1,I1,r1,ty,q1⟩=>?_)
 obtain⟨h1,h2⟩:=uU I1 r1 ty
 refine⟨T,id,pa,slot,hty,h1,h2,?_⟩
 have hA:=ha cpos pins s1 σ H1 _ I1 q1
 rw[hs] at hA ⊢
 refine Calls.callWith_builtin (by show (false||(backTo cpos (starEach es X.env)).any (·.1))=false;rw[hplain]<;>rfl) (Calls.evalArgs_plain ?_)
 exact thn hA λus s2 ⟨vs,H2,I2,r2,q2⟩=>hm pins s2 σ H2 x vs v us Q I2 r1 r2 q2
end
def MtM (X:Cx)(id:String)(r:V->List V->Hp->VK->Prop):Prop :=
 ∀(pins:List (Addr×Obj)) (s:Shared) (σ:St) (H:Hp) (x:V) (xs:List V) (v:Value) (us:List Value) (Q:VK),Inv X pins σ H s->RelV x v->Vals xs us->r x xs H Q ->
  wpAny (model X.prog X.w) X.A (call (.builtin id) (v::us)) (EP X pins σ Q) X.xe s
theorem Vals.one:∀ {x:V} {us:List Value},Vals [x] us->∃u,us=[u]/\RelV x u
 |_,_,.cons r .nil=>⟨_,rfl,r⟩
theorem Vals.zero:∀ {us:List Value},Vals [] us->us=[]
 |_,.nil=>rfl
theorem Vals.dropLast {xs:List V}{us:List Value}(h:Vals xs us):Vals xs.dropLast us.dropLast:=by
 induction h with
 |nil=>exact .nil
 |cons r t ih=>
  cases t with
  |nil=>exact .nil
  |cons q t'=>exact .cons r ih
theorem Vals.rep {xs:List V}{us:List Value}(h:Vals xs us):∀k:Nat,Vals (List.replicate k xs).flatten (List.replicate k us).flatten
 |0=>.nil
 |k+1=>by
  rw[List.replicate_succ,List.replicate_succ,List.flatten_cons,List.flatten_cons]
  exact Vals.append h (Vals.rep h k)
theorem VD {α:Type}(l:List α):l.eraseIdx (l.length - 1)=l.dropLast:=by
 induction l with
 |nil=>rfl
 |cons a r ih=>
  cases r with
  |nil=>rfl
  |cons b r=>
   have e:(a::b::r).length - 1=((b::r).length - 1)+1:=by
    have h1:(a::b::r).length=r.length+2:=rfl
    have h2:(b::r).length=r.length+1:=rfl
    omega
   rw[e,List.eraseIdx_cons_succ,ih]
   all_goals rfl
theorem ua (its:List Value):∀(k:Nat) (acc:List Value),
  List.foldl (λx1 x2=>x1++x2) acc.toArray (List.replicate k its.toArray)=(acc++(List.replicate k its).flatten).toArray
 |0,acc=>by simp
 |k+1,acc=>by
  have e:acc.toArray++its.toArray=(acc++its).toArray:=by simp
  have e2:(acc++its)++(List.replicate k its).flatten=acc++(List.replicate (k+1) its).flatten:=by
   rw[List.replicate_succ,List.flatten_cons,List.append_assoc]
  rw[<-e2,<-ua its k (acc++its),<-e,List.replicate_succ,List.foldl_cons]
section
variable {X:Cx}{pins:List (Addr×Obj)}{σ:St}{H:Hp}{s:Shared}{l b:Addr}{xs ys zs:List V}
theorem Inv.lset {its its':List Value}{n:Nat}{f:Array Value->Array Value}{t':Nat}(I:Inv X pins σ H s)(hH:H l=some (.lst xs))
  (e:s.heap.get? l=some { cls:=.type "list",data:=.seq its.toArray n }) (hf:f its.toArray=its'.toArray) (hv:Vals ys its') (hz:ys.length<=sizeLine) :
  Inv X pins σ (upd H l (.lst ys)) { s with heap:=s.heap.update l (Obj.mapSeq f),toks:=t' }:=by
 have q:=PySem.IsL.update e f
 rw[hf] at q
 refine I.write (x:=l) (e:=l) (by rw[hH];exact trivial) (.inl rfl) (λb' u hb hu=>(Heap.get?_update_other s.heap (Obj.mapSeq f) (Ne.symm hb)).trans hu) ⟨_,q⟩ ?_
 exact⟨hz,its',_,hv,q⟩
theorem Inv.lnew {its:List Value}{t':Nat}(I:Inv X pins σ H s)(hv:Vals ys its)(hz:ys.length<=sizeLine) :
  Inv X pins σ (upd H s.heap.objs.size (.lst ys)) { s with heap:=s.heap.push { cls:=.type "list",data:=.seq its.toArray },toks:=t' } :=
 I.laid (λ_ _ q=>Heap.get?_push_of_some _ q) (Nat.le_refl _) ⟨hz,its,0,hv,Heap.get?_push_size _ rfl⟩
theorem Inv.fresh (I:Inv X pins σ H s):H s.heap.objs.size=none:=I.hok.fresh (Nat.le_refl _)
theorem Inv.lstM (I:Inv X pins σ H s)(hH:H l=some (.lst xs)):xs.length<=sizeLine/\∃(its:List Value) (n:Nat),Vals xs its/\xs.length=its.length/\s.heap.get? l=some { cls:=.type "list",data:=.seq its.toArray n }:=by
 obtain⟨z,its,n,r,e⟩:=I.hok l _ hH
 exact⟨z,its,n,r,r.length,e⟩
theorem Jl {n:Nat}(h:n<=sizeLine):Builtin.List.listTooLong n=false:=by
 unfold Builtin.List.listTooLong
 exact decide_eq_false (by omega)
end
section
variable {X:Cx}
def VZ:V->List V->Hp->VK->Prop:=λx vs H Q=>∃l xs y,x=.ref l/\vs=[y]/\H l=some (.lst xs)/\xs.length < sizeLine/\Q .non (upd H l (.lst (xs++[y])))
theorem Wm:MtM X "list.append" VZ:=by
 intro pins s σ H x vs v us Q I rx rv h
 obtain⟨l,xs,y,rfl,rfl,hH,hz,q⟩:=h
 cases rx
 obtain⟨u,rfl,ru⟩:=rv.one
 obtain⟨z,its,n,r,hl,e⟩:=I.lstM hH
 refine call_meets F.slot_list_append ⟨_,e,rfl⟩ F.entry_list_append (F.args_list_append_2 _ _) (PySem.list_append l its.toArray n u (by rw[List.size_toArray];omega)) ⟨e,?_⟩
 refine⟨.non,_,I.lset (its':=its++[u]) hH e (by simp) (r.append (.cons ru .nil)) ?_,rfl,q⟩
 rw[List.length_append,List.length_singleton]
 omega
def rPop:V->List V->Hp->VK->Prop:=λx vs H Q=>∃l xs y,x=.ref l/\vs=[]/\H l=some (.lst xs)/\xs[xs.length - 1]?=some y/\Q y (upd H l (.lst xs.dropLast))
theorem QP:MtM X "list.pop" rPop:=by
 intro pins s σ H x vs v us Q I rx rv h
 obtain⟨l,xs,y,rfl,rfl,hH,hy,q⟩:=h
 cases rx
 have hus:=rv.zero
 subst hus
 obtain⟨z,its,n,r,hl,e⟩:=I.lstM hH
 obtain⟨u,hu,ru⟩:=r.get hy
 have hy':its.toArray[its.toArray.size - 1]?=some u:=by
  show its.toArray[its.length - 1]?=some u
  rw[<-Array.getElem?_toList,<-hl]
  exact hu
 refine call_meets F.slot_list_pop ⟨_,e,rfl⟩ F.entry_list_pop (F.args_list_pop_1 _) (MeetsSeq.list_pop_last l its.toArray n u hy' (by rw[List.size_toArray];omega)) ⟨e,?_⟩
 refine⟨y,_,I.lset (its':=its.dropLast) hH e ?_ r.dropLast ?_,ru,q⟩
 ·show its.toArray.eraseIdxIfInBounds (its.toArray.size - 1)=its.dropLast.toArray
  rw[List.size_toArray,List.eraseIdxIfInBounds_toArray,VD]
 ·rw[List.length_dropLast]
  omega
def rRep:R2:=λx y H Q=>∃l k xs,x=.ref l/\y=.int k/\H l=some (.lst xs)/\-(2 ^ 63)<=k/\k < 2 ^ 63/\xs.length * k.toNat<=sizeLine /\
 ∀p,H p=none->Q (.ref p) (upd H p (.lst (List.replicate k.toNat xs).flatten))
theorem Vf {α:Type}(xs:List α)(k:Nat):(List.replicate k xs).flatten.length=k * xs.length:=by
 induction k with
 |zero=>simp
 |succ k ih=>rw[List.replicate_succ,List.flatten_cons,List.length_append,ih,Nat.succ_mul,Nat.add_comm]
theorem WO:OpR X (binaryOp .Mult) rRep:=by
 intro pins s σ H x y v u Q I rx ry h
 obtain⟨l,k,xs,rfl,rfl,hH,h1,h2,hz,q⟩:=h
 cases rx
 obtain⟨t,rfl⟩:=ry
 obtain⟨z,its,n,r,hl,e⟩:=I.lstM hH
 have hlen:its.toArray.size * k.toNat<=sizeLine:=by rw[List.size_toArray,<-hl];exact hz
 have hcap:¬its.toArray.size * k.toNat > (2 ^ 63 - 1) / 8:=by
  have:(sizeLine:Nat)<=(2 ^ 63 - 1) / 8:=by decide
  omega
 have hfit:¬(!Builtin.List.listFitsIndex k)=true:=by
  rw[fitsIndex_both h1 h2]
  exact Bool.false_ne_true
 have hlong:¬Builtin.List.listTooLong (its.toArray.size * k.toNat)=true:=by
  rw[Jl hlen]
  exact Bool.false_ne_true
 have hnew:List.foldl (λx1 x2=>x1++x2) #[] (List.replicate (if its.toArray.isEmpty=true then 0 else k.toNat) its.toArray)=(List.replicate k.toNat its).flatten.toArray:=by
  have f0:∀m:Nat,List.foldl (λx1 x2=>x1++x2) #[] (List.replicate m its.toArray)=(List.replicate m its).flatten.toArray:=λm=>by
   have:=ua its m []
   rw[List.nil_append] at this
   exact this
  rw[f0]
  cases its with
  |nil=>simp
  |cons a r'=>rw[if_neg (by simp)]
 refine wpAny_binaryOp_repeat_ref (T := "list") (U := "int") (by decide) ⟨_,e,rfl⟩ (λs'=>typeIs_int s' k t) noFill_list_mul F.fills_int_mul F.slot_int_rmul repeat_list F.slot_int_index.lookup
  (call_meets F.slot_int_rmul (typeIs_int s k t) F.entry_int_rmul (F.args_int_rmul_2 _ _) (int___rmul___int_list k t l its.toArray n)
   ⟨e,rfl,⟨_,e,rfl⟩,call_meets F.slot_list_mul ⟨_,e,rfl⟩ F.entry_list_mul (F.args_list_mul_2 _ _) (AutoListH.list___mul___list_int_3 l its.toArray n k t hfit hcap hlong) ⟨e,?_⟩⟩)
 rw[hnew]
 exact⟨.ref _,_,I.lnew (t':=s.toks) (r.rep k.toNat) (by rw[Vf,Nat.mul_comm];exact hz),rfl,q _ I.fresh⟩
end
section
variable {prog:Program}{w:World}{A:Around}{E:Value->Shared->Prop}{s:Shared}
end
section
variable {X:Cx}
end
end L2
namespace Att
open PySem PySem.W PySem.Calls PyProof.Rows
theorem Vb {P:Params}{h:Heap}:∀(ns:List Int) (vs:List Value),WellAll P h vs (ns.map WData.int)->IntsAre vs ns:=by
 intro ns
 induction ns with
 |nil=>
  intro vs w
  rw[List.map_nil] at w
  cases w
  exact .nil
 |cons n ns ih=>
  intro vs w
  rw[List.map_cons] at w
  cases w with
  |cons a b=>
   cases a
   exact .cons _ _ (ih _ b)
theorem KY {l:OpenLaw}{n:Nat}(hn:l.most=some n){P:Params}{h:Heap}{args:List WData}{vals:List Value}
  (hpre:l.row.toRowW.claim.pre args=true) (hwl:WellAll P h vals args) :
  ∃a vs ns,vals=[Value.ref a]/\args=[WData.list (ns.map WData.int)]/\h.get? a=some { cls:=.type "list",data:=.seq vs.toArray }/\IntsAre vs ns/\ns.length<=n:=by
 have hsh:WShape.hasAll [] args [.list .int]=true:=(pre_splitW hpre).1
 have hc:l.pre.holds [] { args:=args }=true:=(pre_splitW hpre).2
 obtain⟨d,r,rfl,h1,h2⟩:=hasAllW_cons hsh
 obtain rfl:=hasAllW_nil h2
 obtain⟨xs,rfl,h3⟩:=hasW_list h1
 obtain⟨ns,rfl⟩:=items_int h3
 have hlen:ns.length<=n:=by
  unfold OpenLaw.pre at hc
  have h4:(WTm.not (.lt (.lit (.int (n:Int))) (.len (.arg 0)))).holds [] { args:=[.list (ns.map .int)] }=true:=by
   have h4:=(holds_andW hc).1
   rw[hn] at h4
   exact h4
  have h5:=condW_of h4 (w_not (w_lt w_lit (w_len_list (w_arg rfl))))
  rw[List.length_map] at h5
  refine Nat.le_of_not_lt λq=>?_
  have q':(n:Int) < ((ns.length:Nat):Int):=by omega
  first
   | (rw[decide_eq_true q'] at h5;exact absurd h5 (by decide))
   | (simp at h5;omega)
 cases hwl with
 |cons w1 w2=>
  cases w2
  cases w1 with
  |list ho hall=>exact⟨_,_,ns,rfl,rfl,ho,Vb ns _ hall,hlen⟩
theorem QG (l:OpenLaw)(args:List WData):l.row.toRowW.claim.post args (.bool true) args=true :=
 postW_of (r:=l.row.toRowW) (X:=(true==true))
  (show WShape.has [] (.bool true) .bool=true by first | rfl | decide | simp[WShape.has,WShape.arms,WShape.armsAll])
  (show (WTm.eq .res (.lit (.bool true))).value [] { args:=args,res:=some (.bool true),after:=args }=some (.bool (true==true)) from w_eq_bool (w_res rfl) w_lit) rfl
theorem attach_call {l:OpenLaw}{n:Nat}{q:Program}{loose:List Str}{XP:(Str->Option Value)->Heap->Prop}{YP:World->Heap->Prop}{d:DefRec}
  (hn:l.most=some n) (hdf:d.params.defaults=[])
  (call:∀(w:World) (s₀ s₁:Shared) (mg mb:Str->Option Value) (fa:Addr) (o:Obj) (pm cd doc:Value) (a:Addr) (vs:List Value) (ns:List Int),
   Ground q loose [] XP w s₀ mg mb s₁.heap->YP w s₁.heap ->
   s₁.heap.get? fa=some o->o.data=.func (docDef d.name d.params d.body d.scope pm cd doc)->s₁.heap.CodeRec cd d.name->mg d.name=some (.ref fa) ->
   s₁.heap.get? a=some { cls:=.type "list",data:=.seq vs.toArray }->IntsAre vs ns->ns.length<=n->s₁.gens=#[] ->
   codeAny (model l.prog w) callerA (.call (.ref fa) ⟨[.ref a],[]⟩) (λr s'=>r=.ok (.ret (.bool true))/\OldK s₁.heap s'.heap/\s'.os=s₁.os/\AllBare s'.gens) s₁) :
  WalkO q loose XP YP l.row.toRowW d [] (λf vs=>PySem.call f vs):=by
 intro w s₀ s₁ mg mb G Y fa o pm cd doc dV kV ho hd hcd hD hmg hg args vals as hpre hlay hrd hwl hlo
 obtain rfl:dV=.none:=Dflts.none hD hdf
 obtain rfl:kV=.none:=Dflts.noKw hD
 obtain⟨a,vs,ns,rfl,rfl,hobj,hints,hlen⟩:=KY hn hpre hwl
 refine enter_call (codeAny_mono (call w s₀ s₁ mg mb fa o pm cd doc a vs ns G Y ho (fd_plain hd) hcd hmg hobj hints hlen hg) λr s' hq=>?_)
 obtain⟨rfl,h2,h3,h4⟩:=hq
 exact⟨.inl ⟨.bool true,.bool true,[],rfl,λ_=>rfl,.bool true,QG l _,λ_=>⟨List.Pairwise.nil,λ_ hm=>(nomatch hm)⟩⟩,h2,h3,h4⟩
section
variable {prog:Program}{w:World}{A:Around}{E:Value->Shared->Prop}{s:Shared}{K:Frag}
def ledger (h:Heap)(L d:Addr):List (Addr×Obj):=(List.range h.objs.size).filterMap λa=>if a=L∨a=d then none else (h.get? a).map λo=>(a,o)
end
end Att
namespace L2
open PySem PySem.Spec PyProof.Rows
theorem Yk:∀ {vs:List Value} {ns:List Int},IntsAre vs ns->Vals (ns.map V.int) vs
 |_,_,.nil=>.nil
 |_,_,.cons n t h=>.cons ⟨t,rfl⟩ (Yk h)
def Only (H:Hp):Prop:=∀b,H b=none∨∃o xs,H b=some (.frz o (.lst xs))
theorem Wr {P:Program}{w:World}{K:PySem.W.Frag}{mg mb:Str->Option Value}{CX:CXT}{k:Nat}{fa a:Addr}{fd:FuncData}{x:Str}{sp:Sp}{s₁:Shared}{vs:List Value}{ns:List Int}
  (KX:K.In s₁.heap) (hns:s₁.heap.Ns mainGlobals mg) (hb:s₁.heap.Ns builtinsNs mb) (hbb:∀x:Str,x ≠ "__name__" -> mb x=bootBuiltins x) (hlim:s₁.heap.NoLimit) (hg:s₁.gens=#[])
  (ha:s₁.heap.get? a=some { cls:=.type "list",data:=.seq vs.toArray }) (hi:IntsAre vs ns) (hl:ns.length<=sizeLine) (hr:Room k callerA)
  (F:∀base:Heap,K.In base->base.Ns mainGlobals mg->FnOk P w K mg base CX k fa fd [x] sp) (hbind:∀(s:Shared) (u:Value),BindsTo s fd ⟨[u],[]⟩ [(x,u)])
  (hsp:∀H:Hp,Only H->SqL K H a (ns.map V.int)->sp [.ref a] H (λv _=>v=.bl true) λ_ _ _=>False)
  (hCX:∀H e s',CX [] H s₁ (λ_ _ _=>False) e s'->False) :
  codeAny (model P w) callerA (.call (.ref fa) ⟨[.ref a],[]⟩) (λr s'=>r=.ok (.ret (.bool true))/\OldK s₁.heap s'.heap/\s'.os=s₁.os/\AllBare s'.gens) s₁:=by
 have rv:=Yk hi
 have lenV:=hi.length
 have core:∀H:Hp,Only H->SqL K H a (ns.map V.int)->HOk P w H s₁.heap->(∀b,H b≠none->b=a)->(H a≠none->K.lookup a=none) ->
   codeAny (model P w) callerA (.call (.ref fa) ⟨[.ref a],[]⟩) (λr s'=>r=.ok (.ret (.bool true))/\OldK s₁.heap s'.heap/\s'.os=s₁.os/\AllBare s'.gens) s₁:=by
  intro H hO hS hok hA hK
  have base_of:∀ {b:Addr} {o:Obj},s₁.heap.get? b=some o->H b=none->(hidT s₁.heap H).get? b=some o:=λe n=>VS e n
  have noA:∀ {b:Addr} {o:Obj} {es:Array DictEntry} {ep:Nat},s₁.heap.get? b=some o->o.data=.dict es ep->H b=none:=fun {b o es ep} e d=>by
   cases q:H b with
   |none=>rfl
   |some u=>
    have e':b=a:=hA b (by rw[q];simp)
    subst e'
    rw[ha] at e;cases e
    have d':Data.seq vs.toArray _=Data.dict es ep:=d
    cases d'
  have nsK:∀ {b:Addr} {m:Str->Option Value},s₁.heap.Ns b m->(hidT s₁.heap H).Ns b m:=fun {b m} ⟨o,es,ep,e,d,r⟩=>⟨o,es,ep,base_of e (noA e d),d,r⟩
  have hKb:K.In (hidT s₁.heap H):=λb o e=>base_of (KX b o e) (by
   cases q:H b with
   |none=>rfl
   |some u=>
    have e':b=a:=hA b (by rw[q];simp)
    subst e'
    rw[hK (by rw[q];simp)] at e;cases e)
  have hM:Mod K mg (hidT s₁.heap H):=⟨hKb,nsK hns,⟨mb,nsK hb,hbb⟩,let ⟨mc,h1,h2⟩:=hlim;⟨mc,nsK h1,h2⟩⟩
  have e0:Env0 P w K mg (hidT s₁.heap H) callerA [] s₁ H:=⟨rfl,hM,λb o e=>Q4 e,Nat.le_of_eq (VH _ _),trivial,λb hb=>absurd (show b∈([]:List Addr) from hb) (by simp),hok,.of_eq hg⟩
  refine codeAny_mono ((F _ hKb (nsK hns)).run callerA [] s₁ H ⟨[.ref a],[]⟩ [.ref a] [.ref a] _ _ hr e0 (hbind s₁ (.ref a)) (.cons rfl .nil) (hsp H hO hS)) λr s' h=>?_
  cases r with
  |error e=>exact (hCX H e s' h).elim
  |ok fl=>
   cases fl with
   |next=>exact False.elim h
   |brk=>exact False.elim h
   |cont=>exact False.elim h
   |ret u=>
    obtain⟨v,H',os,bare,un,hok',r',q⟩:=h
    have q':v=.bl true:=q
    subst q'
    obtain rfl:u=Value.bool true:=r'
    refine⟨rfl,OldK.of_keep λb o e=>?_,os,bare⟩
    cases q:H b with
    |none=>exact un.keep b o e q (by intro z;exact absurd (show b∈([]:List Addr) from z) (by simp)) (by simp)
    |some u=>
     rcases hO b with z | ⟨ob,xs,z⟩
     ·rw[q] at z;cases z
     ·have z2:=un.frzs b ob _ z
      obtain⟨e1,_⟩:=hok b _ z
      obtain⟨e2,_⟩:=hok' b _ z2
      rw[e] at e1;cases e1
      exact e2
 cases hk:K.lookup a with
 |some o=>
  have e:=KX a o hk
  rw[ha] at e
  cases e
  refine core (λ_=>none) (λ_=>.inl rfl) (.inr ⟨_,vs.toArray,_,hk,rfl,rfl,rfl,by rw[List.size_toArray,lenV];exact hl,by simpa using rv⟩) (λb u z=>by have z':(none:Option HO)=some u:=z;cases z') (λb z=>absurd rfl z) λz=>absurd rfl z
 |none=>
  refine core (λb=>if b=a then some (.frz { cls:=.type "list",data:=.seq vs.toArray } (.lst (ns.map V.int))) else none) (λb=>?_) (.inl (.inr ⟨{ cls:=.type "list",data:=.seq vs.toArray },if_pos rfl⟩)) (λb u z=>?_) (λb z=>?_) λ_=>hk
  ·by_cases hb:b=a
   ·exact .inr ⟨_,_,if_pos hb⟩
   ·exact .inl (if_neg hb)
  ·by_cases hb:b=a
   ·have z':=(if_pos hb).symm.trans z
    cases z'
    subst hb
    exact⟨ha,by rw[List.length_map];exact hl,vs,_,rv,ha⟩
   ·have z':=(if_neg hb).symm.trans z
    cases z'
  ·by_cases hb:b=a
   ·exact hb
   ·exact absurd (if_neg hb) z
abbrev KOf {K:PySem.W.Frag}{h:Heap}(_:K.In h):PySem.W.Frag:=K
theorem walk_of {l:PySem.W.OpenLaw}{n k:Nat}{q:Program}{loose:List Str}{XP:(Str->Option Value)->Heap->Prop}{YP:World->Heap->Prop}{d:DefRec}{K:Params->PySem.W.Frag}{CX:World->CXT}{sp:World->Sp}{x:Str}
  (hn:l.most=some n) (hn2:n<=sizeLine) (hdf:d.params.defaults=[]) (hr:Room k callerA)
  (hY:∀(w:World) (h:Heap),YP w h->(K w.params).In h)
  (F:∀(w:World) (mg:Str->Option Value) (fa:Addr) (h:Heap),(K w.params).In h->h.Ns mainGlobals mg->mg d.name=some (.ref fa) ->
   ∃fd:FuncData,(∀(s:Shared) (u:Value),BindsTo s fd ⟨[u],[]⟩ [(x,u)]) /\
    ∀base:Heap,(K w.params).In base->base.Ns mainGlobals mg->FnOk l.prog w (K w.params) mg base (CX w) k fa fd [x] (sp w))
  (hsp:∀(w:World) (H:Hp) (a:Addr) (ns:List Int),ns.length<=n->Only H->SqL (K w.params) H a (ns.map V.int)->sp w [.ref a] H (λv _=>v=.bl true) λ_ _ _=>False)
  (hCX:∀(w:World) (H:Hp) (s:Shared) (e:Value) (s':Shared),CX w [] H s (λ_ _ _=>False) e s'->False) :
  PySem.W.WalkO q loose XP YP l.row.toRowW d [] (λf vs=>PySem.call f vs):=by
 refine Att.attach_call hn hdf λw s₀ s₁ mg mb fa o pm cd doc a vs ns G Y ho hd hcd hmg hobj hints hlen hg=>?_
 have KX:=hY w _ Y
 obtain⟨fd,hb,hF⟩:=F w mg fa _ KX G.T.g hmg
 exact Wr KX G.T.g G.T.b G.T.builtins G.T.nolimit hg hobj hints (Nat.le_trans hlen hn2) hr hF hb (λH hO hS=>hsp w H a ns hlen hO hS) λH e s'=>hCX w H s₁ e s'
end L2
namespace L2
open PySem PySem.Spec PyProof.Rows
def yr (s:Stmt)(j:Nat):Stmt:=match s with
 |.ClassDef _ _ _ body _ _ _ _ _ _ _=>body.getD j (.Pass ⟨0,0,0,0⟩)
 |_=>.Pass ⟨0,0,0,0⟩
def zu (s:Stmt):Arguments:=match s with
 |.FunctionDef _ a _ _ _ _ _ _ _ _=>a
 |_=>{ posonlyargs:=[],args:=[],vararg:=none,kwonlyargs:=[],kw_defaults:=[],kwarg:=none,defaults:=[] }
def zq (s:Stmt):List Stmt:=match s with
 |.FunctionDef _ _ b _ _ _ _ _ _ _=>b
 |_=>[]
def ze (s:Stmt):Scope:=match s with
 |.FunctionDef _ _ _ _ _ _ sc _ _ _=>sc
 |_=>{ kind:=.function,names:=[],isGenerator:=false,isCoroutine:=false }
abbrev CX0:CXT:=λ_ _ _ _ _ _=>False
abbrev E0:XK:=λ_ _ _=>False
theorem pass0 {X:Cx}:Passes CX0 X E0:=λ_ _ _ _ _ _ _ h=>h.elim
structure Fun (K:PySem.W.Frag)(x qual:Str)(st:Stmt)(f:Addr)(fd:FuncData):Prop where
 ex:∃(oc:Value) (od:Option Addr) (kV doc pm:Value) (an:Option Addr) (cdv ct:Value) (osl:Array (Option Value)),
  fd=fnOf x qual (zu st) (zq st) (ze st) .none kV doc pm an cdv ct/\K.lookup f=some ⟨oc,od,.func fd,osl⟩/\codeIn K cdv qual=true
 kp:keepIn K (.ref f)=true
section
variable {P:Program}{w:World}{K:PySem.W.Frag}{mg:Str->Option Value}{base:Heap}
theorem Fun.ok {x qual:Str}{st:Stmt}{f:Addr}{fd:FuncData}{N ps:List Str}{k:Nat}{sp:Sp}(F:Fun K x qual st f fd)(S:FnScope N ps (ze st))(len:∀vs H Q E,sp vs H Q E->vs.length=ps.length)
  (hbody:∀(cdv:Value) (A:Around) (outer:List Env) (s:Shared) (H:Hp) (vs:List V) (Q:VK) (E:XK),Room k (A.deeper (envOfC qual (ze st) s.heap.objs.size f cdv))->sp vs H Q E ->
   ∃t,PSs (cxOf CX0 P w K mg base N qual (ze st) f cdv A outer s H E).nox (zq st) t/\t { nx:=λ_ H'=>Q .non H',rt:=Q } (start N vs) H):FnOk P w K mg base CX0 (k+1) f fd ps sp:=by
 obtain⟨oc,od,kV,doc,pm,an,cdv,ct,osl,rfl,lk,hcd⟩:=F.ex
 refine uk lk hcd S len λA outer s H vs Q E hr hsp=>?_
 obtain⟨t,h,q⟩:=hbody cdv A outer s H vs Q E hr hsp
 exact⟨t,h.nox,q⟩
theorem Fun.binds {x qual:Str}{st:Stmt}{f:Addr}{fd:FuncData}{ps:List Str}(F:Fun K x qual st f fd)
  (h:∀(kV doc pm:Value) (an:Option Addr) (cdv ct:Value) (us:List Value),us.length=ps.length->bindArgs (fnOf x qual (zu st) (zq st) (ze st) .none kV doc pm an cdv ct) ⟨us,[]⟩=pure (ps.zip us)):Binds K fd ps []:=by
 obtain⟨oc,od,kV,doc,pm,an,cdv,ct,osl,rfl,lk,hcd⟩:=F.ex
 exact .all (h kV doc pm an cdv ct)
theorem zx {x qual:Str}{st:Stmt}{f:Addr}{oc:Value}{od an:Option Addr}{osl:Array (Option Value)}{kV doc pm cdv ct:Value}(l:K.lookup f=some ⟨oc,od,.func (fnOf x qual (zu st) (zq st) (ze st) .none kV doc pm an cdv ct),osl⟩)
  (c:codeIn K cdv qual=true) (k:keepIn K (.ref f)=true):Fun K x qual st f (fnOf x qual (zu st) (zq st) (ze st) .none kV doc pm an cdv ct):=⟨⟨oc,od,kV,doc,pm,an,cdv,ct,osl,rfl,l,c⟩,k⟩
end
section
variable {X:Cx}
theorem pv (i:Nat){x:Str}{pos:Pos}(hN:X.N[i]?=some x:=by rfl)(hv:Vis X.env.scope x:=by first | exact Or.inl rfl | exact Or.inr (Or.inl rfl) | exact Or.inr (Or.inr rfl))(hd:(x==("__debug__" : Str))=false:=by decide)
  (hcd:(x==("__classdict__" : Str))=false:=by decide):PE X (.Name x pos) (tVar i):=Za hN hv hd hcd
end
theorem iteF {A B:Prop}(h:B):if false=true then A else B:=by
 rw[if_neg Bool.false_ne_true]
 exact h
theorem iteT {A B:Prop}(h:A):if true=true then A else B:=by
 rw[if_pos rfl]
 exact h
def Same (H H':Hp):Prop:=∀b o,H b=some o->H' b=some o
theorem Same.refl (H:Hp):Same H H:=λ_ _ h=>h
theorem Same.trans {H H1 H2:Hp}(a:Same H H1)(b:Same H1 H2):Same H H2:=λc o h=>b c o (a c o h)
theorem Same.free {H H':Hp}(e:Same H H'){l:Addr}(h:H' l=Option.none):H l=Option.none:=by
 cases q:H l with
 |none=>rfl
 |some o=>
  rw[e l o q] at h
  cases h
theorem Same.seq {K:PySem.W.Frag}{H H':Hp}{a:Addr}{xs:List V}(e:Same H H')(h:SqL K H a xs):SqL K H' a xs:=by
 rcases h with (h | ⟨o,h⟩) | h
 ·exact .inl (.inl (e _ _ h))
 ·exact .inl (.inr ⟨o,e _ _ h⟩)
 ·exact .inr h
end L2
namespace L3
open PySem PySem.Spec L2
open PyProof.Rows hiding St
section
variable {X:Cx}{pins:List (Addr×Obj)}{σ:St}{H H':Hp}{s:Shared}{h':Heap}
theorem jn {ch:List Addr}{t':Nat}(I:Inv X pins σ H s)(k:∀b o,b∉ch->s.heap.get? b=some o->h'.get? b=some o)(hf:∀b∈ch,FpOk X pins H b):Inv X pins σ H { s with heap:=h',toks:=t' }:=by
 have nit:∀b u,H b=some u->b∉ch:=λb u e z=>by rw[(hf b z).1] at e;cases e
 refine I.step (g':=s.gens) (d':=s.drawn) (ch:=ch) (λb hb=>?_) (λb o _ _ hc e _=>k b o hc e) (λb o _ _ hc e _=>⟨o.slots,k b o hc e⟩) (λ_ _ _ _ n=>n)
  (λb o hc e=>⟨o,k b o hc e⟩) (λ_ _ e=>e) (λ_ _ _ e=>e) (λb ps e=>⟨#[],by rw[e];simp⟩) (λm hm=>?_) (λb u e=>?_) I.bare
 ·obtain⟨_,f1,_,f3,f4,f5⟩:=hf b hb
  exact⟨f3,f1,f4,f5⟩
 ·obtain⟨o,es,ep,ho,r⟩:=hm
  exact⟨o,es,ep,k _ o (λz=>(hf _ z).2.1 rfl) ho,r⟩
 ·refine (I.hok b u e).stay (λc v hc q=>k c v ?_ q) (λ_ q=>q) λ_ _ q=>q
  rcases hc with z | z
  ·rw[z];exact nit b u e
  ·exact nit c _ z
theorem stepN {ch:List Addr}{t':Nat}{T:Addr}{o:HO}(I:Inv X pins σ H s)(k:∀b o,b∉ch->s.heap.get? b=some o->h'.get? b=some o)(hf:∀b∈ch,FpOk X pins H b)(hT:s.heap.objs.size<=T)
  (new:ObjOk X.prog X.w (upd H T o) h' T o):Inv X pins σ (upd H T o) { s with heap:=h',toks:=t' }:=by
 have nit:∀b u,H b=some u->b∉ch:=λb u e z=>by rw[(hf b z).1] at e;cases e
 have nT:H T=none:=I.hok.fresh hT
 refine I.step (g':=s.gens) (d':=s.drawn) (ch:=ch) (λb hb=>?_) (λb o _ _ hc e _=>k b o hc e) (λb o _ _ hc e _=>⟨o.slots,k b o hc e⟩) (λb u _ e n=>?_)
  (λb o hc e=>⟨o,k b o hc e⟩) (λb xs e=>by rw[zf (zI e nT)];exact e) (λb ob u e=>by rw[zf (zI e nT)];exact e) (λb ps e=>⟨#[],by rw[zf (zI e nT),e];simp⟩) (λm hm=>?_) (λb u e=>?_) I.bare
 ·obtain⟨_,f1,_,f3,f4,f5⟩:=hf b hb
  exact⟨f3,f1,f4,f5⟩
 ·rw[zf (Nat.ne_of_lt (Nat.lt_of_lt_of_le (Heap.lt_size e) hT))];exact n
 ·obtain⟨o,es,ep,ho,r⟩:=hm
  exact⟨o,es,ep,k _ o (λz=>(hf _ z).2.1 rfl) ho,r⟩
 ·by_cases hb:b=T
  ·subst hb;rw[zm] at e;cases e;exact new
  ·rw[zf hb] at e
   refine (I.hok b u e).stay (λc v hc q=>k c v ?_ q) (λc q=>by rw[zf (zI q nT)];exact q) λc xs q=>by rw[zf (zI q nT)];exact q
   rcases hc with z | z
   ·rw[z];exact nit b u e
   ·exact nit c _ z
end
def Ite (K:PySem.W.Frag)(a:Addr):It :=
 ⟨λi H=>∃xs x,SqL K H a xs/\xs[i]?=some x,λi H x H'=>∃T v,H T=none/\x=.ref T/\H'=upd H T (.tup [.int i,v])/\∀xs,SqL K H a xs->xs[i]?=some v,λi H=>∃xs,SqL K H a xs/\xs.length<=i⟩
theorem Vg {P:Program}{w:World}{K:PySem.W.Frag}{elts:List Expr}{k:Nat}{pos:Pos}(a e it:Addr)(hne:e≠it) :
  Turn P w K (.Tuple elts k pos) (Ite K a) [e,it] e (λi h=>(∃old,IsEnum h e it i old)/\h.IsListIter it a i) where
 mem:=by simp
 obj:=λi h st b hb=>by
  obtain⟨⟨old,he⟩,o,e1,c,d⟩:=st
  rcases List.mem_cons.mp hb with rfl | hb
  ·exact⟨_,he,λv z=>by cases z⟩
  ·rw[List.mem_singleton.mp hb]
   exact⟨o,e1,λv z=>by rw[d] at z;cases z⟩
 keep:=λi h h' st k=>⟨let ⟨old,he⟩:=st.1;⟨old,k e (by simp) _ he⟩,st.2.at λo e=>k it (by simp) o e⟩
 item:=by
  intro X hP hw hK hc i pins s σ H E I hf st hg
  subst hP hw hK
  obtain⟨⟨old,he⟩,hit⟩:=st
  obtain⟨xs,x,hq,hx⟩:=hg
  obtain⟨its,rv,p,hz⟩:=I.list hq
  obtain⟨u,hu,ru⟩:=rv.get hx
  refine wpAny_pyNext_enum_item he hit p.isList (x:=u) (by simpa using hu) hne λh' ho hit' hT hsz hk=>⟨_,rfl,?_⟩
  refine wpAny_letOwnedTupleGo_enum ho λh'' he'' hs''=>?_
  have nT:H s.heap.objs.size=none:=I.hok.fresh (Nat.le_refl _)
  have hTe:s.heap.objs.size≠e:=Nat.ne_of_gt (Heap.lt_size he)
  refine⟨.ref s.heap.objs.size,upd H s.heap.objs.size (.tup [.int i,x]),stepN (s:=s) (t':=s.toks+1) (ch:=[e,it]) I (λb o hb q=>?_) hf (Nat.le_refl _) ?_,rfl,⟨_,x,nT,rfl,rfl,λys hy=>by rw[I.list_inj hy hq];exact hx⟩,⟨⟨_,by simpa using he''⟩,hit'.extBut hs''.extBut (Ne.symm hne)⟩,λb hb=>?_⟩
  ·have h1:b≠e:=λz=>hb (by simp[z])
   have h2:b≠it:=λz=>hb (by simp[z])
   exact hs''.extBut b o h1 (hk b o h1 h2 q)
  ·exact⟨(show 2<=sizeLine by decide),[.int i s.toks,u],.cons ⟨_,rfl⟩ (.cons ru .nil),⟨_,hs''.extBut _ _ hTe hT,rfl,_,rfl⟩⟩
  ·have hb':b≠s.heap.objs.size:=by
    rcases List.mem_cons.mp hb with rfl | hb
    ·exact Ne.symm hTe
    ·rw[List.mem_singleton.mp hb]
     obtain⟨o,e1,_⟩:=hit
     exact Nat.ne_of_lt (Heap.lt_size e1)
   rw[zf hb']
   exact (hf b hb).1
 done:=by
  intro X hP hw hK hc i pins s σ H E I hf st hg
  subst hP hw hK
  obtain⟨⟨old,he⟩,hit⟩:=st
  obtain⟨xs,hq,hx⟩:=hg
  obtain⟨its,rv,p,hz⟩:=I.list hq
  have hl:=rv.length
  refine wpAny_pyNext_enum_end (I.ok.hd hc) he hit p.isList (by simp;omega) λh' eb=>⟨rfl,jn (t':=s.toks) (ch:=[e,it]) I (λb o hb q=>eb b o (λz=>hb (by simp[z])) q) hf⟩
 self:=λ_ _ _ _ _ st h=>let ⟨_,he⟩:=st.1;wpAny_pyIter_enum he h
section
variable {X:Cx}{elts:List Expr}{tk:Nat}{tpos:Pos}
def iEnum (K:PySem.W.Frag)(ta:TA):TI:=λσ H R=>ta σ H λvs H1=>∃a,vs=[.ref a]/\(∃xs,SqL K H1 a xs)/\R (Ite K a) H1
theorem Ju {a:Expr}{ta:TA}{p pos:Pos}(hg:Gl X "enumerate") (hm:X.mg "enumerate" = none) (ha:PA X [a] ta) (hs:starEach [a] X.env=[(false,eval a X.env)]:=by rfl) :
  PI X (.Tuple elts tk tpos) (.Call (.Name "enumerate" p) [a] [] pos) (iEnum X.K ta):=by
 intro pins s σ H R I h
 refine Call_ (vg I hg hm (u:=.type "enumerate") (by decide +kernel) (PyProof.Rows.callWith_type1 (thn (ha pos pins s σ H _ I h) λus s1 ⟨vs,H1,I1,r1,q1⟩=>?_) hs rfl))
 obtain⟨a,e,⟨xs,hq⟩,q⟩:=q1
 subst e
 obtain⟨u,rfl,ru⟩:=vals1 r1
 cases ru
 obtain⟨its,rv,pl,hz⟩:=I1.list hq
 refine call_enumerate_list pl.isList λh' he hit hsz hk=>wpAny_pyIter_enum he ?_
 have I2:Inv X pins σ H1 { s1 with heap:=h' }:=I1.kept (t':=s1.toks) hk
 refine⟨s1.heap.objs.size+1,[s1.heap.objs.size+1,s1.heap.objs.size],_,_,H1,rfl,I2,Vg a _ _ (show ((s1.heap.objs.size+1:Nat)≠s1.heap.objs.size) by omega),⟨⟨_,he⟩,hit⟩,λb hb=>?_,q⟩
 have hb':s1.heap.objs.size<=b:=by
  rcases List.mem_cons.mp hb with rfl | hb
  ·exact Nat.le_succ _
  ·rw[List.mem_singleton.mp hb];exact Nat.le_refl _
 exact I1.fpOk hb' (I1.hok.fresh hb')
end
theorem J9 {prog:Program}{w:World}{A:Around}{R:Result->Shared->Prop}{s:Shared}{elt target iter:Expr}{ifs:List Expr}{scope:Scope}{pos:Pos}{it acc:Value}{env:Env}(I:Nat->Shared->Prop)
  (turn:∀n s,I n s->wpAny (model prog w) A (pyNext it) (λr s₁=>match r with
   |none=>R (.ok .next) s₁
   |some v=>wpAny (model prog w) A (letOwnedTupleGo target it v) (λ_ s₁'=>wpAny (model prog w) A (assign target env v) (λ_ s₂=>
     wpAny (model prog w) A (forIn ifs true λc r=>if r=true then do let ok <-isTrue c env (eval c env);pure (ForInStep.yield ok) else pure (ForInStep.yield r)) (λok s₃=>
      if ok=true then wpAny (model prog w) A (eval elt env) (λx s₄=>
       wpAny (model prog w) A (call (.builtin "list.append") [acc,x]) (λ_ s₅=>∃m,m < n/\I m s₅) (λ_ _=>False) s₄) (λ_ _=>False) s₃
      else ∃m,m < n/\I m s₃) (λ_ _=>False) s₂) (λ_ _=>False) s₁') (λ_ _=>False) s₁) (λ_ _=>False) s)
  (n:Nat) (h:I n s):codeAny (model prog w) A (.compLoop (.ListComp elt [⟨target,iter,ifs,0⟩] scope pos) 0 it acc env) R s:=by
 refine codeAny_loop rfl I (λn s hI=>?_) n h
 show wpAny _ A ((compTurn (.ListComp elt [⟨target,iter,ifs,0⟩] scope pos) 0 it acc env).onRaise (λx=>do noteFrame x env;theTreesLotGoes x)) _ _ s
 refine wpAny_noted ?_
 rw[compTurn_list]
 refine wpAny_bind (wpAny_standAt (wpAny_bind (wpAny_mono (turn n s hI) (λr s₁ h₁=>?_) λ_ _ h'=>h'.elim)))
 cases r with
 |none=>exact wpAny_pure h₁
 |some v=>
  refine wpAny_bind (wpAny_mono h₁ (λ_ s₁' h₁'=>?_) λ_ _ h'=>h'.elim)
  refine wpAny_bind (wpAny_mono h₁' (λ_ s₂ h₂=>wpAny_bind (wpAny_mono h₂ (λok s₃ h₃=>?_) λ_ _ h'=>h'.elim)) λ_ _ h'=>h'.elim)
  cases ok with
  |false=>exact wpAny_pure ⟨rfl,h₃⟩
  |true=>
   exact wpAny_bind (wpAny_bind (wpAny_mono h₃ (λx s₄ h₄=>wpAny_bind (wpAny_mono h₄ (λ_ s₅ h₅=>wpAny_pure (wpAny_pure ⟨rfl,h₅⟩)) λ_ _ h'=>h'.elim)) λ_ _ h'=>h'.elim))
def clGo (cells:List (Str×Addr)):List (Str×NameKind)->List (Str×Addr)->List (Str×Addr)
 | [],cs=>cs
 | (n,k)::r,cs=>clGo cells r (if k==.free then (n,(cells.lookup n).getD 0)::cs else cs)
theorem W6 {scope:Scope}{env:Env}(h:∀x∈scope.names,x.2=.free->∃c,env.cells.lookup x.1=some c):closureFor scope env=pure (clGo env.cells scope.names []):=by
 simp only[closureFor]
 have go:∀(l:List (Str×NameKind)) (cs:List (Str×Addr)),(∀x∈l,x.2=.free->∃c,env.cells.lookup x.1=some c) ->
   (forIn l cs λ(x:Str×NameKind) (r:List (Str×Addr))=>(if (x.2==NameKind.free)=true then do let a <-cellOf env x.1;pure (ForInStep.yield ((x.1,a)::r)) else pure (ForInStep.yield r):Sem (ForInStep (List (Str×Addr)))))=pure (clGo env.cells l cs):=by
  intro l
  induction l with
  |nil=>intro cs _;rfl
  |cons x r ih=>
   intro cs hx
   obtain⟨n,k⟩:=x
   rw[List.forIn_cons]
   by_cases hk:(k==NameKind.free)=true
   ·obtain⟨c,e⟩:=hx (n,k) List.mem_cons_self (by simpa using hk)
    have e':env.cells.lookup n=some c:=e
    have ec:cellOf env n=pure c:=by unfold cellOf;rw[e']
    simp only[hk,if_true,ec,pure_bind]
    rw[ih _ λy hy=>hx y (List.mem_cons_of_mem _ hy)]
    simp only[clGo,hk,if_true,e',Option.getD_some]
   ·simp only[hk,Bool.false_eq_true,if_false,pure_bind]
    rw[ih _ λy hy=>hx y (List.mem_cons_of_mem _ hy)]
    simp only[clGo,hk,Bool.false_eq_true,if_false]
 have:=go scope.names [] h
 simpa using this
theorem qw {cells:List (Str×Addr)}:∀(l:List (Str×NameKind)) (cs:List (Str×Addr)) (x:Str) (c:Addr),(∀y∈l,y.2=.free->∃c,cells.lookup y.1=some c)->(∀x c,cs.lookup x=some c->cells.lookup x=some c) ->
  (clGo cells l cs).lookup x=some c->cells.lookup x=some c
 | [],cs,x,c,_,h,e=>h x c e
 | (n,k)::r,cs,x,c,hl,h,e=>by
  refine qw r _ x c (λy hy=>hl y (List.mem_cons_of_mem _ hy)) (λy d=>?_) e
  by_cases hk:(k==NameKind.free)=true
  ·rw[if_pos hk]
   obtain⟨c',e'⟩:=hl (n,k) List.mem_cons_self (by simpa using hk)
   have e':cells.lookup n=some c':=e'
   intro q
   by_cases hy:y=n
   ·subst hy
    rw[List.lookup_cons_self] at q
    rw[<-q,e'];rfl
   ·rw[List.lookup_cons,beq_eq_false_iff_ne.mpr hy] at q
    exact h y d q
  ·rw[if_neg hk];exact h y d
theorem kl {cells:List (Str×Addr)}:∀(l:List (Str×NameKind)) (cs:List (Str×Addr)) (x:Str),(cs.lookup x).isSome=true->((clGo cells l cs).lookup x).isSome=true
 | [],cs,x,h=>h
 | (n,k)::r,cs,x,h=>by
  refine kl r _ x ?_
  by_cases hk:(k==NameKind.free)=true
  ·rw[if_pos hk]
   by_cases hy:x=n
   ·subst hy;rw[List.lookup_cons_self];rfl
   ·rw[List.lookup_cons,beq_eq_false_iff_ne.mpr hy];exact h
  ·rw[if_neg hk];exact h
theorem qH {cells:List (Str×Addr)}:∀(l:List (Str×NameKind)) (cs:List (Str×Addr)) (x:Str),(x,NameKind.free)∈l->((clGo cells l cs).lookup x).isSome=true
 | [],cs,x,h=>by simp at h
 | (n,k)::r,cs,x,h=>by
  rcases List.mem_cons.mp h with e | h
  ·cases e
   exact kl r _ _ (by rw[if_pos (show (NameKind.free==NameKind.free)=true from rfl),List.lookup_cons_self];rfl)
  ·exact qH r _ x h
def cxc (X:Cx)(scope:Scope)(C:Addr)(N:List Str)(s₀:Shared)(H₀:Hp)(fp:List Addr)(pn:List (Addr×Obj)):Cx :=
 { X with N:=N,s₀:=s₀,H₀:=H₀,env:=compEnvC scope (clGo X.env.cells scope.names []) C X.env,outer:=X.stack,stack:=X.stack,ex:=fp,fn:=λ_=>false,pn:=pn,xe:=λ_ _=>False }
structure CompScope (X:Cx)(scope:Scope)(own:List Str)(cap:List (Str×Nat)):Prop where
 kind:scope.kind=.function
 nocell:∀y∈scope.names,y.2≠.cell
 names:∀y∈scope.names,y.2=.local->scope.names.lookup y.1=some .local
 frees:∀y∈scope.names,y.2=.free->X.env.kindOf y.1=some .cell∨X.env.kindOf y.1=some .free
 caps:∀p∈cap,scope.names.lookup p.1=some .free/\X.N[p.2]?=some p.1
theorem qP {env:Env}:∀ {names:List (Str×NameKind)} {x:Str} {k':NameKind},
  (names.map λ(n,k)=>if (k==NameKind.free&&env.scope.kind==.function&&env.kindOf n==some .cell) then (n,NameKind.cell) else (n,k)).lookup x=some k'->(k'=.cell∨k'=.free)->(∀y∈names,y.2≠.cell)->(x,NameKind.free)∈names
 | [],x,k',h,_,_=>by simp at h
 | (n,k)::r,x,k',h,hk,hc=>by
  have ih:=@qP env r x k'
  rw[List.map_cons] at h
  by_cases hq:(k==NameKind.free&&env.scope.kind==.function&&env.kindOf n==some .cell)=true
  ·simp only[hq,if_true] at h
   have kf:k=NameKind.free:=by
    simp only[Bool.and_eq_true,beq_iff_eq] at hq
    exact hq.1.1
   by_cases hx:x=n
   ·subst hx;subst kf;exact List.mem_cons_self
   ·rw[List.lookup_cons,beq_eq_false_iff_ne.mpr hx] at h
    exact List.mem_cons_of_mem _ (ih h hk λy hy=>hc y (List.mem_cons_of_mem _ hy))
  ·simp only[hq,if_false] at h
   by_cases hx:x=n
   ·subst hx
    have h':some k=some k':=by
     have:=h
     simp at this
     rw[this]
    cases h'
    rcases hk with z | z
    ·exact absurd z (hc (x,k) List.mem_cons_self)
    ·subst z;exact List.mem_cons_self
   ·have h2:List.lookup x (List.map (λ(n,k)=>if (k==NameKind.free&&env.scope.kind==.function&&env.kindOf n==some .cell) then (n,NameKind.cell) else (n,k)) r)=some k':=by
     simpa[List.lookup_cons,beq_eq_false_iff_ne.mpr hx] using h
    exact List.mem_cons_of_mem _ (ih h2 hk λy hy=>hc y (List.mem_cons_of_mem _ hy))
theorem kO {env:Env}:∀ {names:List (Str×NameKind)} {x:Str},names.lookup x=some .free ->
  (names.map λ(n,k)=>if (k==NameKind.free&&env.scope.kind==.function&&env.kindOf n==some .cell) then (n,NameKind.cell) else (n,k)).lookup x=some .cell ∨
  (names.map λ(n,k)=>if (k==NameKind.free&&env.scope.kind==.function&&env.kindOf n==some .cell) then (n,NameKind.cell) else (n,k)).lookup x=some .free
 | [],x,h=>by simp at h
 | (n,k)::r,x,h=>by
  have ih:=@kO env r x
  rw[List.map_cons]
  by_cases hx:x=n
  ·subst hx
   rw[List.lookup_cons_self] at h
   cases h
   by_cases hq:(NameKind.free==NameKind.free&&env.scope.kind==.function&&env.kindOf x==some .cell)=true
   ·left;simp only[hq,if_true,List.lookup_cons_self]
   ·right;simp only[hq,if_false];simp
  ·rw[List.lookup_cons,beq_eq_false_iff_ne.mpr hx] at h
   by_cases hq:(k==NameKind.free&&env.scope.kind==.function&&env.kindOf n==some .cell)=true
   ·simp only[hq,if_true,List.lookup_cons,beq_eq_false_iff_ne.mpr hx];exact ih h
   ·have e:(if (k==NameKind.free&&env.scope.kind==.function&&env.kindOf n==some .cell)=true then (n,NameKind.cell) else (n,k))=(n,k):=if_neg hq
    simp only[e,List.lookup_cons,beq_eq_false_iff_ne.mpr hx];exact ih h
theorem uv {names:List (Str×NameKind)}{x:Str}{k:NameKind}(h:names.lookup x=some k):(x,k)∈names:=PySem.mem_of_lookup h
theorem Qe {X:Cx}{scope:Scope}{own:List Str}{cap:List (Str×Nat)}(S:CompScope X scope own cap){pins:List (Addr×Obj)}{σ:St}{H:Hp}{s:Shared}{C:Addr}{fp:List Addr}(I:Inv X pins σ H s)(hC:s.heap.objs.size<=C)(hf:∀b∈fp,FpOk X pins H b)(hlt:∀b∈fp,b < s.heap.objs.size){N:List Str}{pn:List (Addr×Obj)} :
  (cxc X scope C N s H fp pn).Ok:=by
 have hfr:∀y∈scope.names,y.2=.free->∃c,X.env.cells.lookup y.1=some c:=λy hy hk=>I.ok.has y.1 (S.frees y hy hk)
 have sub:∀x c,(clGo X.env.cells scope.names []).lookup x=some c->X.env.cells.lookup x=some c:=λx c=>qw _ _ x c hfr (λx c e=>by simp at e)
 refine⟨I.ok.mod,S.kind,I.ok.glob,I.ok.blt,hC,λx y c h1 h2=>I.ok.inj x y c (sub _ _ h1) (sub _ _ h2),λx hx=>?_,λx c h=>(by cases h),I.ok.hd,I.ok.frames,.inl rfl,λb hb=>⟨Nat.ne_of_lt (Nat.lt_of_lt_of_le (hlt b hb) hC),λx c e=>(hf b hb).2.2.2.2.1 x c (sub x c e)⟩,I.bs,Nat.le_trans I.ok.bsz I.sz,λb o e hb=>?_,λb hb z=>?_,I.stack,I.stkFree⟩
 ·have hx':(x,NameKind.free)∈scope.names:=by
   rcases hx with z | z
   ·exact qP (env:=X.env) z (.inl rfl) S.nocell
   ·exact qP (env:=X.env) z (.inr rfl) S.nocell
  exact Option.isSome_iff_exists.mp (qH scope.names [] x hx')
 ·rcases (hf b hb).2.2.2.1 with z | z
  ·exact I.ok.noex b o e z
  ·exact absurd (Nat.lt_of_lt_of_le (Heap.lt_size (I.ok.bs b o e).1) z) (Nat.lt_irrefl _)
 ·rcases List.mem_cons.mp (I.stkSub b z) with q | q
  ·exact (hf b hb).2.1 q
  ·exact (hf b hb).2.2.1 q
def tComp (wi:TI)(own:List Str)(cap:List (Str×Nat))(g:TG)(tc:TT)(te:TE):TE:=λσ H Q=>wi σ H λJ H1=>∃W:Nat->Nat->List V->Hp->Prop,(∃m,W 0 m [] H1)/\∀i m ys H,W i m ys H ->
 ys.length<=sizeLine/\((J.stop i H/\∀D,H D=none->Q (.ref D) (upd H D (.lst ys)))∨(J.go i H/\∃N:List V->Hp->Prop,(∀ys' H',N ys' H'->∃m',m' < m/\W (i+1) m' ys' H') /\
  ∀x H',J.yld i H x H'->∀σ1:St,σ1.length=own.length->g x (σ1++cap.map λp=>(σ[p.2]?).getD none) H' λσ2 H2=>(∃σ1':St,σ1'.length=own.length/\σ2=σ1'++cap.map λp=>(σ[p.2]?).getD none) /\
   tc σ2 H2 λb H3=>if b=true then te σ2 H3 λy H4=>N (ys++[y]) H4 else N ys H3))
def PIfs (X:Cx)(ifs:List Expr)(tc:TT):Prop :=
 ∀(pins:List (Addr×Obj)) (s:Shared) (σ:St) (H:Hp) (Q:Bool->Hp->Prop),Inv X pins σ H s->tc σ H Q ->
  wpAny (model X.prog X.w) X.A (forIn ifs true λc r=>if r=true then do let ok <-isTrue c X.env (eval c X.env);pure (ForInStep.yield ok) else pure (ForInStep.yield r)) (TP X pins σ Q) X.xe s
def tTrue:TT:=λ_ H Q=>Q true H
theorem Kr {X:Cx}:PIfs X [] tTrue:=λpins s σ H Q I h=>wpAny_tests_nil ⟨H,I,h⟩
theorem Vk {X:Cx}{c:Expr}{tc:TT}(h:PT X c tc):PIfs X [c] tc:=λpins s σ H Q I hq=>wpAny_tests_one (h pins s σ H Q I hq)
theorem Jy {fs ex:List Addr}{H0 H:Hp}{h0 h h':Heap}{D C:Addr}{o:HO}(u:Un fs ex H0 H h0 h)(hD:h0.objs.size<=D)(hC:h0.objs.size<=C)(sb:Heap.SameBut C h h')(n:H D=none):Un fs ex H0 (upd H D o) h0 h':=by
 have ne:∀b ob,h0.get? b=some ob->b≠C:=λb ob e=>Nat.ne_of_lt (Nat.lt_of_lt_of_le (Heap.lt_size e) hC)
 have nd:∀b ob,h0.get? b=some ob->b≠D:=λb ob e=>Nat.ne_of_lt (Nat.lt_of_lt_of_le (Heap.lt_size e) hD)
 refine⟨λb ob e q hb hx=>(sb.2 b (ne b ob e)).trans (u.keep b ob e q hb hx),λb ob e q hb hx=>?_,λb ob e q hx=>?_,λb ob e hx=>?_,λb xs e=>?_,λb ob xs e=>?_,λb ps e=>?_⟩
 ·obtain⟨sl,z⟩:=u.slot b ob e q hb hx
  exact⟨sl,(sb.2 b (ne b ob e)).trans z⟩
 ·rw[zf (nd b ob e)];exact u.free b ob e q hx
 ·obtain⟨o',z⟩:=u.there b ob e hx
  exact⟨o',(sb.2 b (ne b ob e)).trans z⟩
 ·have z:=u.tups b xs e
  rw[zf (zI z n)];exact z
 ·have z:=u.frzs b ob xs e
  rw[zf (zI z n)];exact z
 ·obtain⟨m,z⟩:=u.tbls b ps e
  exact⟨m,by rw[zf (zI z n)];exact z⟩
theorem kJ {X:Cx}{elt tg iter:Expr}{ifs:List Expr}{scope:Scope}{pos pos':Pos}{own:List Str}{cap:List (Str×Nat)}{wi:TI}{g:TG}{tc:TT}{te:TE}{use:Option (Value->Sem Unit)}{Q:Value->Shared->Prop}{W0:VK}{pins:List (Addr×Obj)}{s:Shared}{σ:St}{H:Hp}(hc:X.calm=true)(S:CompScope X scope own cap)(hi:PI X tg iter wi)
  (hin:∀C s₀ H₀ fp pn,PG (cxc X scope C (own++cap.map (·.1)) s₀ H₀ fp pn) tg g/\PIfs (cxc X scope C (own++cap.map (·.1)) s₀ H₀ fp pn) ifs tc/\PE (cxc X scope C (own++cap.map (·.1)) s₀ H₀ fp pn) elt te)
  (hs:∀x,foldedSetIterable iter X.env x=pure x) (I:Inv X pins σ H s) (h:tComp wi own cap g tc te σ H W0)
  (fin:∀(D C:Addr) (s4:Shared) (H':Hp) (ys:List V),Inv X pins σ (upd H' D (.lst ys)) s4->(∃m,s4.heap.Ns C m)->H' C=none->D≠C->X.env.locals < C->(∀x c,X.env.cells.lookup x=some c->c < C)->(∀H0:Hp,H0 C=none->FpOk X pins H0 C)->W0 (.ref D) (upd H' D (.lst ys))->compPost (model X.prog X.w) X.A X.xe use Q (.ref D) C (.ok .next) s4) :
  wpAny (model X.prog X.w) X.A (comprehension (.ListComp elt [⟨tg,iter,ifs,0⟩] scope pos) scope X.env pos' (newList []) false (eval iter X.env) use) Q X.xe s:=by
 have hfr:∀y∈scope.names,y.2=.free->∃c,X.env.cells.lookup y.1=some c:=λy hy hk=>I.ok.has y.1 (S.frees y hy hk)
 refine wpAny_comprehension_free rfl hs (W6 hfr) S.kind S.names (thn (hi pins s σ H _ I h) λxv s₁ h₁=>thn h₁ λit s₂ h₂=>?_)
 obtain⟨it,fp,tn,J,H2,rfl,I2,T,st2,f2,W,⟨m0,w0⟩,turn⟩:=h₂
 refine wpAny_newObj_type (wpAny_newFunctionEnv S.nocell (by intro y hy;simp at hy) (λh₁ hns₁ hsb₁=>?_) S.kind)
 dsimp only at hns₁ hsb₁ ⊢
 generalize hH3:s₂.heap.push { cls:=.type "list",dict:=none,data:=.seq ([]:List Value).toArray }=h3 at hns₁ hsb₁ ⊢
 have hC:h3.objs.size=s₂.heap.objs.size+1:=by rw[<-hH3,Heap.size_push]
 have flt:∀b∈fp,b < s₂.heap.objs.size:=λb hb=>let ⟨o,e,_⟩:=T.obj _ _ st2 b hb;Heap.lt_size e
 have old:∀b o,s₂.heap.get? b=some o->h₁.get? b=some o:=λb o e=>hsb₁.extBut b o (by rw[hC];exact Nat.ne_of_lt (Nat.lt_succ_of_lt (Heap.lt_size e))) (Heap.get?_push_of_some _ (hH3 ▸ Heap.get?_push_of_some _ e))
 have hDC:s₂.heap.objs.size≠h3.objs.size:=by rw[hC];exact Nat.ne_of_lt (Nat.lt_succ_self _)
 have hacc:h₁.get? s₂.heap.objs.size=some { cls:=.type "list",data:=.seq ([]:List Value).toArray }:=hsb₁.extBut _ _ hDC (Heap.get?_push_of_some _ (hH3 ▸ Heap.get?_push_size _ rfl))
 generalize hD:s₂.heap.objs.size=D at hacc hDC
 have hCle:s₂.heap.objs.size<=h3.objs.size:=by rw[hC];exact Nat.le_succ _
 generalize hCC:h3.objs.size=C at *
 have ok:(cxc X scope C (own++cap.map (·.1)) s₂ H2 fp (X.pn++pins)).Ok:=Qe S I2 hCle f2 flt
 have sub:∀x c,(clGo X.env.cells scope.names []).lookup x=some c->X.env.cells.lookup x=some c:=λx c=>qw _ _ x c hfr (λx c e=>by simp at e)
 obtain⟨hG,hT,hE⟩:=hin C s₂ H2 fp (X.pn++pins)
 have fl:∀ {α:Type} {t:Sem α} {Q:α->Shared->Prop} {E:Value->Shared->Prop} {s:Shared},wpAny (model X.prog X.w) X.A t Q (λ_ _=>False) s->wpAny (model X.prog X.w) X.A t Q E s:=λh=>wpAny_mono h (λ_ _ q=>q) λ_ _ f=>f.elim
 have dn:D∉frs X.stack:=λz=>by
  rcases List.mem_cons.mp (I2.stkSub D z) with q | q
  ·exact absurd I2.lt (by rw[<-q,hD];exact Nat.lt_irrefl _)
  ·exact I2.nofs (Nat.le_of_eq hD) q
 have pnl:∀p∈X.pn++pins,p.1 < s₂.heap.objs.size:=λp hp=>Heap.lt_size (I2.pin p hp).1
 have celt:∀x c,(clGo X.env.cells scope.names []).lookup x=some c->c < s₂.heap.objs.size:=λx c e=>let ⟨v,q⟩:=I2.cell x c (sub x c e);q.lt
 have hDle:s₂.heap.objs.size<=D:=Nat.le_of_eq hD
 have I0:Inv (cxc X scope C (own++cap.map (·.1)) s₂ H2 fp (X.pn++pins)) [(D,{ cls:=.type "list",data:=.seq ([]:List Value).toArray })] (List.replicate own.length none++cap.map λp=>(σ[p.2]?).getD none) H2 { s₂ with heap:=h₁,toks:=s₂.toks+([]:List (Str×Value)).length }:=by
  refine⟨ok,rfl,I2.bare,Un.kept old,⟨_,hns₁,λi x v e1 e2 e3=>?_⟩,λx c e=>?_,I2.hok.fresh hCle,λx c e=>I2.freeC x c (sub x c e),λp hp=>?_,I2.hok.kept old,?_⟩
  ·by_cases hi:i < own.length
   ·rw[List.getElem?_append_left (by simpa using hi),List.getElem?_replicate] at e2
    rw[if_pos hi] at e2
    cases e2
   ·have e1:(own++cap.map (·.1))[i]?=some x:=e1
    rw[List.getElem?_append_right (by omega),List.getElem?_map] at e1
    rw[List.getElem?_append_right (by simpa using hi),List.length_replicate,List.getElem?_map] at e2
    cases q:cap[i - own.length]? with
    |none=>rw[q] at e1;cases e1
    |some p=>
     rw[q] at e1 e2
     have e1:p.1=x:=Option.some.inj e1
     have e2:(σ[p.2]?).getD none=some v:=Option.some.inj e2
     obtain⟨c1,c2⟩:=S.caps p (List.mem_of_getElem? q)
     have e2':σ[p.2]?=some (some v):=by
      cases q2:σ[p.2]? with
      |none=>rw[q2] at e2;cases e2
      |some w=>rw[q2] at e2;rw[show w=some v from e2]
     have hk:=S.frees (p.1,.free) (uv c1) rfl
     obtain⟨m,hn,hl⟩:=I2.loc
     obtain⟨u,ru,lk⟩:=hl p.2 p.1 v c2 e2' (.inr hk)
     refine⟨u,ru,.inr ?_⟩
     rcases lk with⟨k1,_⟩ | ⟨_,c,ec,hcell⟩
     ·rcases hk with z | z
      ·rw[k1] at z;cases z
      ·rw[k1] at z;cases z
     ·subst e1
      refine⟨kO (env:=X.env) c1,?_⟩
      obtain⟨c',ec'⟩:=Option.isSome_iff_exists.mp (qH (cells:=X.env.cells) scope.names [] p.1 (uv c1))
      have z:=sub _ _ ec'
      rw[ec] at z;cases z
      obtain⟨o,ho,hd⟩:=hcell
      exact⟨c,ec',o,old c o ho,hd⟩
  ·obtain⟨v,o,ho,hd⟩:=I2.cell x c (sub x c e)
   exact⟨v,o,old c o ho,hd⟩
  ·rcases List.mem_append.mp (show p∈(X.pn++pins)++[(D,_)] from hp) with hp | hp
   ·obtain⟨q1,q2,q3,q4,q5⟩:=I2.pin p hp
    refine⟨old _ _ q1,q2,Nat.ne_of_lt (Nat.lt_of_lt_of_le (Heap.lt_size q1) hCle),λz=>?_,q5⟩
    rcases List.mem_cons.mp (I2.stkSub p.1 z) with q | q
    ·exact q3 q
    ·exact q4 q
   ·rw[List.mem_singleton.mp hp]
    exact⟨hacc,I2.hok.fresh hDle,hDC,dn,λv z=>by cases z⟩
  ·show (List.replicate own.length none++cap.map _).length=(own++cap.map _).length
   simp
 have stat:∀ {H':Hp} {pl:List (Addr×Obj)},(∀p∈pl,p.1=D∨p.1∈fp->p.1=D)->(∀b∈fp,H' b=none)->∀b∈fp,FpOk (cxc X scope C (own++cap.map (·.1)) s₂ H2 fp (X.pn++pins)) pl H' b:=by
  intro H' pl hpl hn b hb
  refine⟨hn b hb,Nat.ne_of_lt (Nat.lt_of_lt_of_le (flt b hb) hCle),λz=>?_,.inl hb,λx c e=>(f2 b hb).2.2.2.2.1 x c (sub x c e),λp hp=>?_⟩
  ·rcases List.mem_cons.mp (I2.stkSub b z) with q | q
   ·exact (f2 b hb).2.1 q
   ·exact (f2 b hb).2.2.1 q
  ·rcases List.mem_append.mp (show p∈(X.pn++pins)++pl from hp) with hp | hp
   ·exact (f2 b hb).2.2.2.2.2 p hp
   ·intro z
    have:=hpl p hp (.inr (z ▸ hb))
    rw[z] at this
    exact absurd (flt b hb) (by rw[this,hD];exact Nat.lt_irrefl _)
 have loop:∀s₃:Shared,s₃={ s₂ with heap:=h₁,toks:=s₂.toks+([]:List (Str×Value)).length } ->
   codeAny (model X.prog X.w) X.A (.compLoop (.ListComp elt [⟨tg,iter,ifs,0⟩] scope pos) 0 (.ref it) (.ref D) (compEnvC scope (clGo X.env.cells scope.names []) C X.env)) (compPost (model X.prog X.w) X.A X.xe use Q (.ref D) C) s₃:=by
  rintro s₃ rfl
  refine J9 (λn s'=>∃i ys its k σ1 H',Inv (cxc X scope C (own++cap.map (·.1)) s₂ H2 fp (X.pn++pins)) [(D,{ cls:=.type "list",data:=.seq (List.toArray its) k })] (σ1++cap.map λp=>(σ[p.2]?).getD none) H' s'/\σ1.length=own.length/\Vals ys its/\tn i s'.heap/\(∀b∈fp,H' b=none)/\W i n ys H') ?_ m0
   ⟨0,[],[],0,_,H2,I0,by simp,.nil,T.keep _ _ _ st2 λb hb o e=>old b o e,λb hb=>(f2 b hb).1,w0⟩
  rintro n s' ⟨i,ys,its,k,σ1,H',J1,hσ,rv,st1,fr1,w1⟩
  obtain⟨hsz,⟨stop,qn⟩ | ⟨go,N,hN,step⟩⟩:=turn i n ys H' w1
  ·refine thn (T.done (cxc X scope C (own++cap.map (·.1)) s₂ H2 fp (X.pn++pins)) rfl rfl rfl hc i _ s' _ H' (λ_ _=>False) J1 (stat (by intro p hp _;rw[List.mem_singleton.mp hp]) fr1) st1 stop) λr s4 ⟨hr,I4⟩=>?_
   subst hr
   obtain⟨m4,hn4,_⟩:=I4.loc
   obtain⟨pD1,pD2,pD3,pD4,pD5⟩:=I4.pin (D,_) (List.mem_append_right _ List.mem_cons_self)
   have u:=Jy (o:=.lst ys) I4.base hDle hCle (show Heap.SameBut C s4.heap s4.heap from⟨rfl,λ_ _=>rfl⟩) pD2
   have hCn:H' C=none:=I4.free
   have I5:Inv X pins σ (upd H' D (.lst ys)) s4:=by
    refine I2.call' (s':=s4) (ch:=fp) I4.os u ?_ I4.bare λb hb=>?_
    ·intro b ob e
     by_cases hb:b=D
     ·subst hb
      rw[zm] at e;cases e
      exact⟨hsz,its,k,rv,pD1⟩
     ·rw[zf hb] at e
      exact (I4.hok b ob e).stay (λc v hc' q=>q) (λc q=>by rw[zf (zI q pD2)];exact q) λc xs q=>by rw[zf (zI q pD2)];exact q
    ·obtain⟨q1,q2,q3,q4,q5,q6⟩:=f2 b hb
     exact⟨q4,q2,q5,q6⟩
   exact fin D C s4 H' ys I5 ⟨m4,hn4⟩ hCn hDC (Nat.lt_of_lt_of_le I2.lt hCle) (λx c e=>let ⟨v,q⟩:=I2.cell x c e;Nat.lt_of_lt_of_le q.lt hCle) (λH0 z=>I2.fpOk hCle z) (qn D pD2)
  ·refine thn (T.item (cxc X scope C (own++cap.map (·.1)) s₂ H2 fp (X.pn++pins)) rfl rfl rfl hc i _ s' _ H' (λ_ _=>False) J1 (stat (by intro p hp _;rw[List.mem_singleton.mp hp]) fr1) st1 go) λr s4 ⟨u,hr,h4⟩=>?_
   subst hr
   refine thn h4 λ_ s5 ⟨x,H5,I5,r5,y5,st5,fr5⟩=>?_
   have I5':=I5.pinned (stat (by intro p hp _;rw[List.mem_singleton.mp hp]) fr5) (T.obj _ _ st5)
   refine thn (hG _ s5 _ H5 x u _ I5' r5 (step x H5 y5 σ1 hσ)) λ_ s6 ⟨σ6,H6,I6,⟨σ1',l6,e6⟩,q6⟩=>?_
   subst e6
   refine thn (hT _ s6 _ H6 _ I6 q6) λok s7 ⟨H7,I7,q7⟩=>?_
   have again:∀ {s8:Shared} {H8:Hp} {ys8:List V} {its8:List Value} {k8:Nat},Inv (cxc X scope C (own++cap.map (·.1)) s₂ H2 fp (X.pn++pins)) ([(D,{ cls:=.type "list",data:=.seq (List.toArray its8) k8 })]++pinsAt fp s5.heap) (σ1'++cap.map λp=>(σ[p.2]?).getD none) H8 s8->Vals ys8 its8->N ys8 H8 ->
     ∃m,m < n/\∃i ys its k σ1 H',Inv (cxc X scope C (own++cap.map (·.1)) s₂ H2 fp (X.pn++pins)) [(D,{ cls:=.type "list",data:=.seq (List.toArray its) k })] (σ1++cap.map λp=>(σ[p.2]?).getD none) H' s8/\σ1.length=own.length/\Vals ys its/\tn i s8.heap/\(∀b∈fp,H' b=none)/\W i m ys H':=by
    intro s8 H8 ys8 its8 k8 I8 rv8 n8
    obtain⟨m',hm,w8⟩:=hN ys8 H8 n8
    refine⟨m',hm,i+1,ys8,its8,k8,σ1',H8,I8.unpinned,l6,rv8,T.keep _ _ _ st5 λb hb o e=>(I8.pin (b,o) (List.mem_append_right _ (List.mem_append_right _ (jm hb e)))).1,λb hb=>?_,w8⟩
    obtain⟨o,e,d⟩:=T.obj _ _ st5 b hb
    exact (I8.pin (b,o) (List.mem_append_right _ (List.mem_append_right _ (jm hb e)))).2.1
   cases ok with
   |false=>exact again I7 rv q7
   |true=>
    refine thn (hE _ s7 _ H7 _ I7 q7) λy s8 ⟨v8,H8,I8,r8,q8⟩=>?_
    obtain⟨pD1,pD2,pD3,pD4,pD5⟩:=I8.pin (D,_) (List.mem_append_right _ List.mem_cons_self)
    have hsz':its.toArray.size<=sizeLine:=by rw[List.size_toArray,<-rv.length];exact hsz
    refine wpAny_list_append_plain (hsz:=hsz') (items:=its.toArray) ⟨k,pD1⟩ λh9 pl9 sb9=>?_
    obtain⟨k9,e9⟩:=pl9
    have ea:its.toArray.push y=(its++[y]).toArray:=by simp
    rw[ea] at e9
    have I8':Inv (cxc X scope C (own++cap.map (·.1)) s₂ H2 fp (X.pn++pins)) (pinsAt fp s5.heap) (σ1'++cap.map λp=>(σ[p.2]?).getD none) H8 s8:=I8.pins_of λp hp=>I8.pin p (List.mem_append_right _ (List.mem_append_right _ hp))
    have fD:FpOk (cxc X scope C (own++cap.map (·.1)) s₂ H2 fp (X.pn++pins)) (pinsAt fp s5.heap) H8 D:=by
     refine⟨pD2,pD3,pD4,.inr hDle,λx c e z=>?_,λp hp z=>?_⟩
     ·exact absurd (celt x c e) (by rw[z,hD];exact Nat.lt_irrefl _)
     ·rcases List.mem_append.mp (show p∈(X.pn++pins)++_ from hp) with hp | hp
      ·exact absurd (pnl p hp) (by rw[z,hD];exact Nat.lt_irrefl _)
      ·exact absurd (flt p.1 (Yx hp).1) (by rw[z,hD];exact Nat.lt_irrefl _)
    have I9:Inv (cxc X scope C (own++cap.map (·.1)) s₂ H2 fp (X.pn++pins)) (pinsAt fp s5.heap) (σ1'++cap.map λp=>(σ[p.2]?).getD none) H8 { s8 with heap:=h9 }:=jn (t':=s8.toks) (ch:=[D]) I8' (λb o hb e=>(sb9.2 b λz=>hb (by simp[z])).trans e) λb hb=>by rw[List.mem_singleton.mp hb];exact fD
    have I10:Inv (cxc X scope C (own++cap.map (·.1)) s₂ H2 fp (X.pn++pins)) ([(D,{ cls:=.type "list",data:=.seq (its++[y]).toArray k9 })]++pinsAt fp s5.heap) (σ1'++cap.map λp=>(σ[p.2]?).getD none) H8 { s8 with heap:=h9 }:=I9.pins_of λp hp=>by
     rcases List.mem_append.mp hp with hp | hp
     ·rw[List.mem_singleton.mp hp]
      exact⟨e9,pD2,pD3,pD4,λv z=>by cases z⟩
     ·exact I9.pin p (List.mem_append_right _ hp)
    exact again (s8:={ s8 with heap:=h9 }) I10 (rv.append (.cons r8 .nil)) q8
 subst hD
 exact codeAny_compStart_list (loop _ rfl) (T.self _ 0 _ _ _ (T.keep _ _ _ st2 λb hb o e=>old b o e) (loop _ rfl))
theorem Kz {X:Cx}{elt tg iter:Expr}{ifs:List Expr}{scope:Scope}{pos:Pos}{own:List Str}{cap:List (Str×Nat)}{wi:TI}{g:TG}{tc:TT}{te:TE}(hc:X.calm=true)(S:CompScope X scope own cap)(hi:PI X tg iter wi)
  (hin:∀C s₀ H₀ fp pn,PG (cxc X scope C (own++cap.map (·.1)) s₀ H₀ fp pn) tg g/\PIfs (cxc X scope C (own++cap.map (·.1)) s₀ H₀ fp pn) ifs tc/\PE (cxc X scope C (own++cap.map (·.1)) s₀ H₀ fp pn) elt te)
  (hs:∀x,foldedSetIterable iter X.env x=pure x:=by intro _;rfl) :
  PE X (.ListComp elt [⟨tg,iter,ifs,0⟩] scope pos) (tComp wi own cap g tc te):=by
 intro pins s σ H Q I h
 rw[eval_ListComp]
 exact kJ (Q:=EP X pins σ Q) hc S hi hin hs I h λD C s4 H' ys I5 ⟨m,hn⟩ hCn hDC _ _ fp qn=>⟨m,hn,λh' sb=>⟨.ref D,_,jn (t':=s4.toks) (ch:=[C]) I5 (λb o hb q=>(sb.2 b λz=>hb (by simp[z])).trans q) (λb hb=>by rw[List.mem_singleton.mp hb];exact fp _ (by rw[zf (Ne.symm hDC)];exact hCn)),rfl,qn⟩⟩
theorem Vr {X:Cx}{i:Nat}{y:Str}{py spos:Pos}{elt tg iter:Expr}{ifs:List Expr}{scope:Scope}{pos:Pos}{own:List Str}{cap:List (Str×Nat)}{wi:TI}{g:TG}{tc:TT}{te:TE}(hc:X.calm=true)(S:CompScope X scope own cap)(hi:PI X tg iter wi)
  (hin:∀C s₀ H₀ fp pn,PG (cxc X scope C (own++cap.map (·.1)) s₀ H₀ fp pn) tg g/\PIfs (cxc X scope C (own++cap.map (·.1)) s₀ H₀ fp pn) ifs tc/\PE (cxc X scope C (own++cap.map (·.1)) s₀ H₀ fp pn) elt te)
  (hN:X.N.Nodup) (hiy:X.N[i]?=some y) (hy:Loc X.env.scope y) (hsw:swapsWith (.ListComp elt [⟨tg,iter,ifs,0⟩] scope pos) (some (.Name y py)) spos.line X.env=pure true)
  (hs:∀x,foldedSetIterable iter X.env x=pure x:=by intro _;rfl) (hfn:X.fn y=true∨X.env.scope.names.lookup y=some .local:=by first | exact .inl rfl | exact .inr rfl | assumption) :
  PS X (.Assign [.Name y py] (.ListComp elt [⟨tg,iter,ifs,0⟩] scope pos) spos) (tAsg (tComp wi own cap g tc te) (gName i)):=by
 intro pins s σ H Dn I h
 rw[exec_Assign_Name_used _ _ _ _ hsw]
 refine wpAny_bind (wpAny_standAt (wpAny_bind ?_))
 show wpAny _ X.A (do let _ <-comprehension (.ListComp elt [⟨tg,iter,ifs,0⟩] scope pos) scope X.env _ (newList []) false (eval iter X.env) (some (assign (.Name y py) X.env))) _ _ s
 refine wpAny_bind (wpAny_mono (kJ (use:=some (assign (.Name y py) X.env)) (Q:=λ_ s'=>SP X pins Dn .next s') hc S hi hin hs I h λD C s4 H' ys I5 ⟨m4,hn4⟩ hCn hDC lt cl fp qn=>?_) (λ_ s' hq=>wpAny_pure (wpAny_pure hq)) λ_ _ e=>e)
 show wpAny _ X.A (assign (.Name y py) X.env (.ref D)) _ _ _
 refine wpAny_assign_Name (qy I5 hN hiy hy (v:=.ref D) rfl (λs5 I6 ⟨a5,sb5,ha5⟩=>?_) hfn)
 have hCa:C≠a5:=by
  rcases ha5 with z | z
  ·rw[z];exact Nat.ne_of_gt lt
  ·exact λe=>absurd (cl _ _ z) (by rw[<-e];exact Nat.lt_irrefl _)
 refine⟨m4,hn4.sameBut sb5 hCa,λh3 sb3=>?_⟩
 have hC0:(upd H' D (.lst ys)) C=none:=by rw[zf (Ne.symm hDC)];exact hCn
 exact⟨_,_,jn (t':=s5.toks) (ch:=[C]) I6 (λb o hb q=>(sb3.2 b (λz=>hb (by simp[z]))).trans q) (λb hb=>by rw[List.mem_singleton.mp hb];exact fp _ hC0),qn⟩
end L3
namespace L2
open PySem PySem.Spec PyProof.Rows
section
variable {κ:Type} [DecidableEq κ]
def putK (kvs:List (κ×V))(k:κ)(v:V):List (κ×V) :=
 if (kvs.any λkv=>decide (kv.1=k))=true then kvs.map (λkv=>if kv.1=k then (kv.1,v) else kv) else kvs++[(k,v)]
theorem YB (kvs:List (κ×V))(k:κ)(v:V):(putK kvs k v).length<=kvs.length+1:=by
 unfold putK
 split
 ·rw[List.length_map];omega
 ·rw[List.length_append,List.length_cons,List.length_nil];omega
theorem KV.any {kvs:List (κ×V)}{vs:List (κ×Value)}(r:KV kvs vs)(k:κ):(kvs.any λkv=>decide (kv.1=k))=vs.any λkv=>decide (kv.1=k):=by
 unfold KV at r
 induction r with
 |nil=>rfl
 |cons h t ih=>rw[List.any_cons,List.any_cons,ih,h.1]
theorem KV.repl {kvs:List (κ×V)}{vs:List (κ×Value)}(r:KV kvs vs)(k:κ){y:V}{u:Value}(ry:RelV y u) :
  KV (kvs.map λkv=>if kv.1=k then (kv.1,y) else kv) (vs.map λkv=>if kv.1=k then (kv.1,u) else kv):=by
 unfold KV at r ⊢
 induction r with
 |nil=>exact .nil
 | @cons p q ps qs h t ih=>
  rw[List.map_cons,List.map_cons]
  refine .cons ?_ ih
  obtain⟨h1,h2⟩:=h
  by_cases e:p.1=k
  ·rw[if_pos e,if_pos (h1.symm.trans e)];exact⟨h1,ry⟩
  ·rw[if_neg e,if_neg (λz=>e (h1.trans z))];exact⟨h1,h2⟩
theorem KV.put {kvs:List (κ×V)}{vs:List (κ×Value)}(r:KV kvs vs)(k:κ){y:V}{u:Value}(ry:RelV y u):KV (putK kvs k y) (stored vs k u):=by
 unfold putK stored
 rw[r.any k]
 by_cases e:(vs.any λkv=>decide (kv.1=k))=true
 ·rw[if_pos e,if_pos e];exact r.repl k ry
 ·rw[if_neg e,if_neg e];exact Paired.snoc r ⟨rfl,ry⟩
end
theorem WY {P:Program}{w:World}{k:Key}{u:Value}(r:RelV (kV k) u):(zU P w).is k u=true:=by
 cases k with
 |inl i=>obtain⟨t,e⟩:=(show ∃t,u=Value.int i t from r);subst e;exact W2 P w i t
 |inr x=>obtain⟨t,e⟩:=(show ∃t,u=Value.str x t from r);subst e;exact KJ P w x t
section
variable {P:Program}{w:World}{H:Hp}{h:Heap}{a:Addr}
theorem We {u:HO}(ok:HOk P w H h)(e:Rd H a u):ObjOk P w H h a u:=e.ok ok
theorem JE {kvs:List (Key×V)}(ok:HOk P w H h)(e:Rd H a (.dK kvs)):kvs.length<=sizeLine/\(a==sysModules)=false/\∃vs,KV kvs vs/\h.DictOf (zU P w) a vs :=
 show ObjOk P w H h a (.dK kvs) from We ok e
theorem QV {kvs:List (Key×V)}(ok:HOk P w H h)(e:H a=some (.dK kvs)):kvs.length<=sizeLine/\(a==sysModules)=false/\∃vs,KV kvs vs/\h.DictOf (zU P w) a vs:=JE ok (.inl e)
end
section
variable {X:Cx}{pins:List (Addr×Obj)}{σ:St}{H:Hp}{s:Shared}{a:Addr}{y v:V}{u r:Value}{o:Option V}{A:Around}{E:Value->Shared->Prop}
theorem Inv.big (I:Inv X pins σ H s):sysModules < s.heap.objs.size:=by
 have h:mainGlobals < s.heap.objs.size:=(I.mod.glob.keeps I.bk).lt
 exact Nat.lt_trans (by decide) h
theorem Va {h':Heap}{t':Nat}{ob:HO}(I:Inv X pins σ H s)(mu:Mut (H a))(hs:Heap.SameBut a s.heap h')(he:∃q,h'.get? a=some q)(new:ObjOk X.prog X.w (upd H a ob) h' a ob) :
  Inv X pins σ (upd H a ob) { s with heap:=h',toks:=t' } :=
 I.write (x:=a) (e:=a) mu (.inl rfl) (λb q hb z=>(hs.2 b hb).trans z) he new
end
section
variable {X:Cx}{pins:List (Addr×Obj)}{σ:St}{H:Hp}{s:Shared}{a:Addr}{kvs:List (Key×V)}{k:Key}{u:Value}{A:Around}{E:Value->Shared->Prop}
end
section
variable {X:Cx}{o i e value:Expr}{pos pos' tpos:Pos}{td ty tv:TE}
end
theorem QE {P:Program}{w:World}{H:Hp}(h:Heap)(hb:sysModules < h.objs.size):ObjOk P w H (h.push { cls:=.type "dict",data:=.dict #[] }) h.objs.size (.dK []) :=
 ⟨Nat.zero_le _,beq_eq_false_iff_ne.mpr (Ne.symm (Nat.ne_of_lt hb)),[],.nil,Heap.DictOf.new h⟩
section
variable {X:Cx}{pos:Pos}
end
def tPairs:List (TE×TE)->St->Hp->(List (V×V)->Hp->Prop)->Prop
 | [],_,H,Q=>Q [] H
 | (tk,tv)::r,σ,H,Q=>tk σ H λx H1=>tv σ H1 λy H2=>tPairs r σ H2 λps H3=>Q ((x,y)::ps) H3
abbrev VV:List (V×V)->List (Value×Value)->Prop:=Paired λp q=>RelV p.1 q.1/\RelV p.2 q.2
def PPs (X:Cx)(pos:Pos)(keys:List (Option Expr))(values:List Expr)(trs:List (TE×TE)):Prop :=
 ∀(pins:List (Addr×Obj)) (s:Shared) (σ:St) (H:Hp) (Q:List (V×V)->Hp->Prop),Inv X pins σ H s->tPairs trs σ H Q ->
  wpAny (model X.prog X.w) X.A (evalPairs (pairTrees keys values X.env pos)) (λvs s'=>∃ps H',Inv X pins σ H' s'/\VV ps vs/\Q ps H') X.xe s
theorem YC {X:Cx}{pos:Pos}:PPs X pos [] [] []:=λpins s σ H Q I h=>pairTrees_nil_walk ⟨[],H,I,.nil,h⟩
theorem Qj {X:Cx}{pos:Pos}{k v:Expr}{ks:List (Option Expr)}{vs:List Expr}{tk tv:TE}{trs:List (TE×TE)}(hk:PE X k tk)(hv:PE X v tv)(hr:PPs X pos ks vs trs) :
  PPs X pos (some k::ks) (v::vs) ((tk,tv)::trs):=λpins s σ H Q I h=>
 pairTrees_cons_walk (thn (hk pins s σ H _ I h) λu s1 ⟨x,H1,I1,rx,q1⟩=>thn (hv pins s1 σ H1 _ I1 q1) λw2 s2 ⟨y,H2,I2,ry,q2⟩=>
  thn (hr pins s2 σ H2 _ I2 q2) λws s3 ⟨ps,H3,I3,rel,q3⟩=>⟨(x,y)::ps,H3,I3,.cons ⟨rx,ry⟩ rel,q3⟩)
def mergeK (kvs more:List (Key×V)):List (Key×V):=more.foldl (λacc kv=>putK acc kv.1 kv.2) kvs
theorem KV.merge:∀ {more:List (Key×V)} {rs:List (Key×Value)} {kvs:List (Key×V)} {vs:List (Key×Value)},KV more rs->KV kvs vs->KV (mergeK kvs more) (merged vs rs):=by
 intro more rs kvs vs r
 unfold KV at r
 induction r generalizing kvs vs with
 |nil=>intro q;exact q
 | @cons p q ps qs h t ih=>
  intro r0
  have e:KV (putK kvs p.1 p.2) (stored vs q.1 q.2):=by
   have:=r0.put p.1 h.2
   rw[<-h.1];exact this
  exact ih e
theorem um:∀(more kvs:List (Key×V)),(mergeK kvs more).length<=kvs.length+more.length
 | [],kvs=>by show kvs.length<=kvs.length+0;omega
 |p::r,kvs=>by
  have h1:=um r (putK kvs p.1 p.2)
  have h2:=YB kvs p.1 p.2
  show (mergeK (putK kvs p.1 p.2) r).length<=_
  rw[List.length_cons];omega
theorem kM {P:Program}{w:World}:∀ {kvs:List (Key×V)} {ws:List (Value×Value)},VV (kvs.map λkv=>(kV kv.1,kv.2)) ws->∃rs,Carries (zU P w) ws rs/\KV kvs rs
 | [],_,r=>by rw[List.map_nil] at r;cases r;exact⟨[],True.intro,.nil⟩
 |p::kvs,_,r=>by
  rw[List.map_cons] at r
  cases r with
  | @cons a b as bs h t=>
   obtain⟨rs,c,q⟩:=kM (P:=P) (w:=w) t
   obtain⟨b1,b2⟩:=b
   exact⟨(p.1,b2)::rs,⟨WY h.1,rfl,c⟩,.cons ⟨rfl,h.2⟩ q⟩
structure M1 (X:Cx)(o:Expr)(m:Str)(apos:Pos)(e:Expr)(cpos:Pos):Prop where
 base:attributeBase o m X.env (eval o X.env)=eval o X.env
 few:((backTo cpos (starEach [e] X.env)).all (λx=>!x.1)&&(backToKw cpos (keywordEach [] X.env)).all (λx=>x.1.isSome)
  && decide (([e]:List Expr).length+([]:List Keyword).length+(if ([]:List Keyword).isEmpty then 0 else 1) < 30))=true
 line:(apos.endLine==cpos.line)=true
 trees:backTo cpos (starEach [e] X.env)=[(false,eval e X.env)]
structure M2 (X:Cx)(o:Expr)(m:Str)(apos:Pos)(e f:Expr)(cpos:Pos):Prop where
 base:attributeBase o m X.env (eval o X.env)=eval o X.env
 few:((backTo cpos (starEach [e,f] X.env)).all (λx=>!x.1)&&(backToKw cpos (keywordEach [] X.env)).all (λx=>x.1.isSome)
  && decide (([e,f]:List Expr).length+([]:List Keyword).length+(if ([]:List Keyword).isEmpty then 0 else 1) < 30))=true
 line:(apos.endLine==cpos.line)=true
 trees:backTo cpos (starEach [e,f] X.env)=[(false,eval e X.env),(false,eval f X.env)]
section
variable {X:Cx}{pins:List (Addr×Obj)}{σ:St}{H:Hp}{s:Shared}{a:Addr}{y d:V}{u r:Value}{o:Option V}{A:Around}{E:Value->Shared->Prop}
end
section
variable {X:Cx}{o e f:Expr}{apos cpos:Pos}{td ty tx:TE}
end
section
variable {X:Cx}{pins:List (Addr×Obj)}{σ:St}{H:Hp}{s:Shared}{a:Addr}{kvs:List (Key×V)}{A:Around}{E:Value->Shared->Prop}
end
section
variable {X:Cx}{pins:List (Addr×Obj)}{σ:St}{H:Hp}{s:Shared}{a:Addr}{y:V}{u:Value}{A:Around}{E:Value->Shared->Prop}
end
end L2
namespace L4
open PySem PySem.Spec L2 L3
open PyProof.Rows hiding St
def dxp (w:World)(a:Addr)(o:Obj)(kvs:List (Key×V)):Heap->Prop:=λh=>h.get? a=some o/\kvs.length<=sizeLine/\(a==sysModules)=false/\∃vs,KV kvs vs/\∀P,o.IsDictOf (zU P w) vs
def DX (w:World)(a:Addr)(o:Obj)(kvs:List (Key×V)):HO:=.ext (dxp w a o kvs)
theorem pairsP {P P':Program}{w:World}:∀ {es:List DictEntry} {vs:List (Key×Value)},Pairs (zU P w) es vs->Pairs (zU P' w) es vs:=by
 intro es vs h
 induction h with
 |nil=>exact .nil
 |cons=>first | exact .cons ‹_› ‹_› | exact .cons ‹_› ‹_› ‹_› | (constructor<;>assumption)
theorem anyP {o:Obj}{P P':Program}{w:World}{vs:List (Key×Value)}(h:o.IsDictOf (zU P w) vs):o.IsDictOf (zU P' w) vs :=
 let ⟨es,ep,h1,h2,h3,h4,h5⟩:=h;⟨es,ep,h1,h2,h3,pairsP h4,h5⟩
theorem Vm {P:Program}{w:World}{h:Heap}{a:Addr}{kvs:List (Key×V)}{vs:List (Key×Value)}(z:kvs.length<=sizeLine)(hd:(a==sysModules)=false)(rel:KV kvs vs)(dd:h.DictOf (zU P w) a vs) :
  ∃o,h.get? a=some o/\∀H,ObjOk P w H h a (DX w a o kvs):=by
 obtain⟨o,ho,hi⟩:=Heap.dictOf_iff.mp dd
 exact⟨o,ho,λH=>⟨⟨ho,z,hd,vs,rel,λP=>anyP hi⟩,⟨o,ho⟩,λh1 h2 ⟨e,r⟩ k=>⟨k _ e,r⟩⟩⟩
section
variable {X:Cx}{pins:List (Addr×Obj)}{σ:St}{H:Hp}{s:Shared}{a:Addr}{ob:Obj}{kvs:List (Key×V)}{k:Key}{y v:V}{u r:Value}{A:Around}{E:Value->Shared->Prop}
end
section
variable {X:Cx}{o i e f value:Expr}{pos pos' tpos apos cpos:Pos}{td ty tv tx:TE}
end
section
variable {X:Cx}{pins:List (Addr×Obj)}{σ:St}{H:Hp}{s:Shared}{a:Addr}{ob:Obj}{kvs:List (Key×V)}
end
inductive PairsAt (P:Program) (w:World) (h:Heap):List Value->List (Key×Value)->Prop
 |nil:PairsAt P w h [] []
 |cons {a:Addr} {r:List Value} {k:Key} {kv v:Value} {kvs:List (Key×Value)}:h.IsTuple a #[kv,v]->(zU P w).is k kv=true->PairsAt P w h r kvs->PairsAt P w h (.ref a::r) ((k,v)::kvs)
section
variable {prog:Program}{w:World}{A:Around}{s:Shared}{R:Result->Shared->Prop}
end
section
variable {prog:Program}{w:World}{A:Around}{E:Value->Shared->Prop}{s:Shared}
end
inductive PairsV (K:PySem.W.Frag) (H:Hp):List V->List (Key×V)->Prop
 |nil:PairsV K H [] []
 |cons {a:Addr} {r:List V} {k:Key} {v:V} {kvs:List (Key×V)}:SqT K H a [kV k,v]->PairsV K H r kvs->PairsV K H (.ref a::r) ((k,v)::kvs)
section
variable {X:Cx}{pins:List (Addr×Obj)}{σ:St}{H:Hp}{s:Shared}
end
section
variable {X:Cx}
end
section
variable {X:Cx}{pins:List (Addr×Obj)}{σ:St}{H:Hp}{s:Shared}{a v:Addr}{ob:Obj}{kvs:List (Key×V)}{cls:String}
end
structure M0 (X:Cx)(o:Expr)(m:Str)(apos cpos:Pos):Prop where
 base:attributeBase o m X.env (eval o X.env)=eval o X.env
 line:(apos.endLine==cpos.line)=true
section
variable {X:Cx}{o:Expr}{apos cpos:Pos}{td:TE}
end
def lookI (kis:List (Key×Int))(k:Key):Option Int:=(kis.find? λp=>decide (p.1=k)).map (·.2)
def hitsI (kb:List (Key×Int)):List (Key×Int)->Bool
 | []=>true
 |p::r=>match lookI kb p.1 with
  |none=>false
  |some j=>decide (p.2=j)&&hitsI kb r
def eqI (ka kb:List (Key×Int)):Bool:=ka.length==kb.length&&hitsI kb ka
section
variable {X:Cx}{pins:List (Addr×Obj)}{σ:St}{H:Hp}{s:Shared}{a b:Addr}{oa ob:Obj}{ka kb:List (Key×Int)}{A:Around}{E:Value->Shared->Prop}
end
section
variable {X:Cx}{i o:Expr}{ta tb:TE}
end
section
variable {X:Cx}{pins:List (Addr×Obj)}{σ:St}{H:Hp}{s:Shared}{a:Addr}{ob:Obj}{kvs:List (Key×V)}
end
section
variable {X:Cx}{pins:List (Addr×Obj)}{σ:St}{H H':Hp}{s:Shared}{h':Heap}
end
end L4
namespace Dv
open PySem PySem.Spec L2 L3 L4
open PyProof.Rows hiding St
structure KW where
 fr:PySem.W.Frag
 w:World
instance:Coe KW PySem.W.Frag:=⟨KW.fr⟩
abbrev _root_.L2.Cx.kw (X:Cx):KW:=⟨X.K,X.w⟩
inductive Xt where
 |dic (k:Str) (i:Int) | exc (C:Addr) (fs:List (Str×Key))
def exDic (F:Hp)(dd:Option Addr):List (Str×Key)->Prop
 | []=>dd=none
 |f::fs=>∃dx,dd=some dx/\F dx=some (.xd ((f::fs).map λp=>(p.1,kV p.2)))
def exAt (a:Addr)(o:Obj):HO:=.ext λh=>h.get? a=some o
def RXt (F:Hp):Xt->V->Prop
 |.dic k i,v=>∃a,v=.ref a/\F a=some (.dK [(.inr k,.int i)])
 |.exc C fs,v=>∃a oe,v=.ref a/\F a=some (exAt a oe)/\oe.cls=.ref C/\(∃z,oe.data=.fields z)/\exDic F oe.dict fs
theorem exDic.mono {F F':Hp}(s:Same F F'){dd:Option Addr}:∀ {fs:List (Str×Key)},exDic F dd fs->exDic F' dd fs
 | [],h=>h
 |_::_,⟨dx,e,q⟩=>⟨dx,e,s _ _ q⟩
theorem RXt.mono {F F':Hp}(s:Same F F'):∀ {x:Xt} {v:V},RXt F x v->RXt F' x v
 |.dic _ _,_,⟨a,e,q⟩=>⟨a,e,s _ _ q⟩
 |.exc _ _,_,⟨a,oe,e,q,h1,h2,h3⟩=>⟨a,oe,e,s _ _ q,h1,h2,h3.mono s⟩
theorem RXt.ref {F:Hp}:∀ {x:Xt} {v:V},RXt F x v->∃a,v=.ref a
 |.dic _ _,_,⟨a,e,_⟩=>⟨a,e⟩
 |.exc _ _,_,⟨a,_,e,_⟩=>⟨a,e⟩
inductive D where
 |non | bl (b:Bool) | int (i:Int) | str (x:Str) | lst (xs:List D) | tup (xs:List D) | scr (ns:List Int) | obj (C:Addr) (fs:List Str) (ds:List D)
  |emp
 |xc (x:Xt)
mutual
def Rp (K:KW)(F:Hp):D->V->Prop
 |.non,v=>v=.non
 |.bl b,v=>v=.bl b
 |.int i,v=>v=.int i
 |.str x,v=>v=.str x
 |.lst ds,v=>∃a vs,v=.ref a/\F a=some (.lst vs)/\Rps K F ds vs
 |.tup ds,v=>∃a vs,v=.ref a/\F a=some (.tup vs)/\Rps K F ds vs
 |.scr ns,v=>∃a,v=.ref a/\SqL K F a (ns.map V.int)
 |.obj C fs ds,v=>∃a dx vs,v=.ref a/\F a=some (.ins C dx (fs.zip vs))/\fs.length=vs.length/\Rps K F ds vs
 |.emp,v=>∃a,v=.ref a/\F a=some (.dK [])
 |.xc x,v=>RXt F x v
def Rps (K:KW)(F:Hp):List D->List V->Prop
 | [],vs=>vs=[]
 |d::ds,vs=>∃v r,vs=v::r/\Rp K F d v/\Rps K F ds r
end
mutual
theorem Rp.mono {K:KW}{F F':Hp}(s:Same F F'):∀ {d:D} {v:V},Rp K F d v->Rp K F' d v
 |.non,_,h=>h
 |.bl _,_,h=>h
 |.int _,_,h=>h
 |.str _,_,h=>h
 |.lst _,_,⟨a,vs,e,q,r⟩=>⟨a,vs,e,s _ _ q,Rps.mono s r⟩
 |.tup _,_,⟨a,vs,e,q,r⟩=>⟨a,vs,e,s _ _ q,Rps.mono s r⟩
 |.scr _,_,⟨a,e,q⟩=>⟨a,e,s.seq q⟩
 |.obj _ _ _,_,⟨a,dx,vs,e,q,l,r⟩=>⟨a,dx,vs,e,s _ _ q,l,Rps.mono s r⟩
 |.emp,_,⟨a,e,q⟩=>⟨a,e,s _ _ q⟩
 |.xc _,_,h=>RXt.mono s h
theorem Rps.mono {K:KW}{F F':Hp}(s:Same F F'):∀ {ds:List D} {vs:List V},Rps K F ds vs->Rps K F' ds vs
 | [],_,h=>h
 |_::_,_,⟨v,r,e,h,t⟩=>⟨v,r,e,Rp.mono s h,Rps.mono s t⟩
end
section
variable {K:KW}{F F' H H':Hp}
theorem Rps.length:∀ {ds:List D} {vs:List V},Rps K F ds vs->ds.length=vs.length
 | [],_,h=>by cases h;rfl
 |_::_,_,⟨_,_,e,_,t⟩=>by subst e;simp[Rps.length t]
theorem Rps.append:∀ {ds es:List D} {vs ws:List V},Rps K F ds vs->Rps K F es ws->Rps K F (ds++es) (vs++ws)
 | [],_,_,_,h,t=>by cases h;exact t
 |_::_,_,_,_,⟨v,r,e,h,t⟩,q=>by subst e;exact⟨v,_,rfl,h,Rps.append t q⟩
theorem Rps.get:∀ {ds:List D} {vs:List V} {i:Nat} {d:D},Rps K F ds vs->ds[i]?=some d->∃v,vs[i]?=some v/\Rp K F d v
 | [],_,_,_,_,e=>by simp at e
 |_::_,_,0,_,⟨v,r,e,h,t⟩,q=>by subst e;simp at q;subst q;exact⟨v,rfl,h⟩
 |_::_,_,i+1,_,⟨v,r,e,h,t⟩,q=>by
  subst e
  obtain⟨w,h1,h2⟩:=Rps.get (i:=i) t (by simpa using q)
  exact⟨w,by simpa using h1,h2⟩
theorem Rps.get':∀ {ds:List D} {vs:List V} {i:Nat} {v:V},Rps K F ds vs->vs[i]?=some v->∃d,ds[i]?=some d/\Rp K F d v:=fun {ds vs i v} r e=>by
 have hl:=r.length
 have hi:i < vs.length:=(List.getElem?_eq_some_iff.mp e).1
 have hd:ds[i]?=some ds[i]:=List.getElem?_eq_getElem (by omega)
 obtain⟨w,h1,h2⟩:=r.get hd
 rw[e] at h1;cases h1
 exact⟨_,hd,h2⟩
theorem Rps.take:∀ {ds:List D} {vs:List V} (n:Nat),Rps K F ds vs->Rps K F (ds.take n) (vs.take n)
 |_,_,0,_=>rfl
 | [],_,_+1,h=>by cases h;rfl
 |_::_,_,n+1,⟨v,r,e,h,t⟩=>by subst e;exact⟨v,_,rfl,h,Rps.take n t⟩
theorem Rps.drop:∀ {ds:List D} {vs:List V} (n:Nat),Rps K F ds vs->Rps K F (ds.drop n) (vs.drop n)
 |_,_,0,r=>r
 | [],_,_+1,h=>by cases h;rfl
 |_::_,_,n+1,⟨v,r,e,h,t⟩=>by subst e;exact Rps.drop n t
theorem Rps.set {d:D}{v:V}(hd:Rp K F d v):∀ {ds:List D} {vs:List V} (n:Nat),Rps K F ds vs->Rps K F (ds.set n d) (vs.set n v)
 | [],_,_,h=>by cases h;rfl
 |_::_,_,0,⟨w,r,e,h,t⟩=>by subst e;exact⟨v,r,rfl,hd,t⟩
 |_::_,_,n+1,⟨w,r,e,h,t⟩=>by subst e;exact⟨w,_,rfl,h,Rps.set hd n t⟩
theorem Rps.snoc {ds:List D}{vs:List V}{d:D}{v:V}(r:Rps K F ds vs)(h:Rp K F d v):Rps K F (ds++[d]) (vs++[v]):=r.append ⟨v,[],rfl,h,rfl⟩
theorem Rps.ints:∀(ns:List Int),Rps K F (ns.map D.int) (ns.map V.int)
 | []=>rfl
 |_::ns=>⟨_,_,rfl,rfl,Rps.ints ns⟩
theorem ya {a:Addr}{o:HO}(n:H a=none):Same H (upd H a o):=λb u e=>by rw[zf (zI e n)];exact e
theorem Wk {a:Addr}{o:HO}(s:Same F H)(n:H a=none):Same F (upd H a o):=s.trans (ya n)
structure Ext (F H F' H':Hp):Prop where
 ff:Same F F'
 hh:Same H H'
 fh:Same F' H'
 nw:∀a,F' a≠none->F a≠none∨H a=none
theorem Ext.refl (s:Same F H):Ext F H F H:=⟨Same.refl _,Same.refl _,s,λ_ h=>.inl h⟩
theorem Ext.trans {F1 H1 F2 H2:Hp}(x:Ext F H F1 H1)(y:Ext F1 H1 F2 H2):Ext F H F2 H2 :=
 ⟨x.ff.trans y.ff,x.hh.trans y.hh,y.fh,λa h=>(y.nw a h).elim (x.nw a) λz=>.inr (x.hh.free z)⟩
theorem Ext.new {a:Addr}{o:HO}(s:Same F H)(n:H a=none):Ext F H F (upd H a o):=⟨Same.refl _,ya n,Wk s n,λ_ h=>.inl h⟩
theorem Ext.newF {a:Addr}{o:HO}(s:Same F H)(n:H a=none):Ext F H (upd F a o) (upd H a o):=by
 refine⟨ya (s.free n),ya n,λb u e=>?_,λb h=>?_⟩
 ·by_cases hb:b=a
  ·subst hb;rw[zm] at e ⊢;exact e
  ·rw[zf hb] at e ⊢;exact s b u e
 ·by_cases hb:b=a
  ·subst hb;exact .inr n
  ·rw[zf hb] at h;exact .inl h
theorem Ext.freeze {a:Addr}{o:HO}(x:Ext F H F' H')(n:H a=none)(n':F' a=none)(e:H' a=some o):Ext F H (upd F' a o) H':=by
 refine⟨x.ff.trans (ya n'),x.hh,λb u q=>?_,λb h=>?_⟩
 ·by_cases hb:b=a
  ·subst hb;rw[zm] at q;cases q;exact e
  ·rw[zf hb] at q;exact x.fh b u q
 ·by_cases hb:b=a
  ·subst hb;exact .inr n
  ·rw[zf hb] at h;exact x.nw b h
def Rq (K:KW)(F H:Hp)(d:D)(v:V):Prop:=Rp K F d v∨∃a vs ds,d=.lst ds/\v=.ref a/\H a=some (.lst vs)/\Rps K F ds vs
theorem Rq.mono (f:Same F F')(h:Same H H'){d:D}{v:V}(r:Rq K F H d v):Rq K F' H' d v:=by
 rcases r with r | ⟨a,vs,ds,e1,e2,e3,e4⟩
 ·exact .inl (r.mono f)
 ·exact .inr ⟨a,vs,ds,e1,e2,h _ _ e3,e4.mono f⟩
theorem Rq.lst (s:Same F H){ds:List D}{v:V}(r:Rq K F H (.lst ds) v):∃a vs,v=.ref a/\H a=some (.lst vs)/\Rps K F ds vs:=by
 rcases r with⟨a,vs,e,q,r⟩ | ⟨a,vs,ds',e1,e2,e3,e4⟩
 ·exact⟨a,vs,e,s _ _ q,r⟩
 ·cases e1;exact⟨a,vs,e2,e3,e4⟩
theorem Rq.one {d:D}{v:V}(r:Rq K F H d v)(h:∀ds,d≠.lst ds):Rp K F d v:=by
 rcases r with r | ⟨a,vs,ds,e1,_⟩
 ·exact r
 ·exact (h ds e1).elim
theorem Rq.int {i:Int}{v:V}(r:Rq K F H (.int i) v):v=.int i:=r.one λ_ h=>by cases h
theorem Rq.bl {i:Bool}{v:V}(r:Rq K F H (.bl i) v):v=.bl i:=r.one λ_ h=>by cases h
theorem Rq.str {i:Str}{v:V}(r:Rq K F H (.str i) v):v=.str i:=r.one λ_ h=>by cases h
theorem Rq.non {v:V}(r:Rq K F H .non v):v=.non:=r.one λ_ h=>by cases h
theorem Rq.tup (s:Same F H){ds:List D}{v:V}(r:Rq K F H (.tup ds) v):∃a vs,v=.ref a/\H a=some (.tup vs)/\Rps K F ds vs:=by
 obtain⟨a,vs,e,q,r⟩:=r.one λ_ h=>by cases h
 exact⟨a,vs,e,s _ _ q,r⟩
theorem Rq.scr (s:Same F H){ns:List Int}{v:V}(r:Rq K F H (.scr ns) v):∃a,v=.ref a/\SqL K H a (ns.map V.int):=by
 obtain⟨a,e,q⟩:=r.one λ_ h=>by cases h
 exact⟨a,e,s.seq q⟩
end
inductive OT where
 |frz (d:D) | lst (ts:List OT) | tup (ts:List OT)
mutual
def RepO (K:KW)(F H:Hp):OT->V->Prop
 |.frz d,v=>Rp K F d v
 |.lst ts,v=>∃a vs,v=.ref a/\H a=some (.lst vs)/\RepOs K F H ts vs
 |.tup ts,v=>∃a vs,v=.ref a/\H a=some (.tup vs)/\RepOs K F H ts vs
def RepOs (K:KW)(F H:Hp):List OT->List V->Prop
 | [],vs=>vs=[]
 |t::ts,vs=>∃v r,vs=v::r/\RepO K F H t v/\RepOs K F H ts r
end
def itemsH (H:Hp)(a:Addr):List V:=match H a with
 |some (.lst vs)=>vs
 |some (.tup vs)=>vs
 |_=>[]
mutual
def feetO (H:Hp):OT->V->List Addr
 |.frz _,_=>[]
 |.lst ts,v=>match v with
  |.ref a=>a::feetOs H ts (itemsH H a)
  |_=>[]
 |.tup ts,v=>match v with
  |.ref a=>a::feetOs H ts (itemsH H a)
  |_=>[]
def feetOs (H:Hp):List OT->List V->List Addr
 | [],_=>[]
 |t::ts,vs=>match vs with
  |v::r=>feetO H t v++feetOs H ts r
  | []=>[]
end
mutual
def OT.erase:OT->D
 |.frz d=>d
 |.lst ts=>.lst (erases ts)
 |.tup ts=>.tup (erases ts)
def erases:List OT->List D
 | []=>[]
 |t::ts=>t.erase::erases ts
end
theorem xk {H:Hp}{a:Addr}{vs:List V}(h:H a=some (.lst vs)):itemsH H a=vs:=by unfold itemsH;rw[h]
theorem xa {H:Hp}{a:Addr}{vs:List V}(h:H a=some (.tup vs)):itemsH H a=vs:=by unfold itemsH;rw[h]
section
variable {K:KW}{F F' H H':Hp}
mutual
theorem RepO.ext (f:Same F F')(h:Same H H'):∀ {t:OT} {v:V},RepO K F H t v->RepO K F' H' t v/\feetO H' t v=feetO H t v
 |.frz _,_,r=>⟨Rp.mono f r,rfl⟩
 |.lst ts,_,⟨a,vs,e,q,r⟩=>by
  subst e
  obtain⟨r1,r2⟩:=RepOs.ext f h r
  exact⟨⟨a,vs,rfl,h _ _ q,r1⟩,by simp only[feetO,xk q,xk (h _ _ q),r2]⟩
 |.tup ts,_,⟨a,vs,e,q,r⟩=>by
  subst e
  obtain⟨r1,r2⟩:=RepOs.ext f h r
  exact⟨⟨a,vs,rfl,h _ _ q,r1⟩,by simp only[feetO,xa q,xa (h _ _ q),r2]⟩
theorem RepOs.ext (f:Same F F')(h:Same H H'):∀ {ts:List OT} {vs:List V},RepOs K F H ts vs->RepOs K F' H' ts vs/\feetOs H' ts vs=feetOs H ts vs
 | [],_,r=>⟨r,rfl⟩
 |t::ts,_,⟨v,r,e,h1,h2⟩=>by
  subst e
  obtain⟨a1,a2⟩:=RepO.ext f h h1
  obtain⟨b1,b2⟩:=RepOs.ext f h h2
  exact⟨⟨v,r,rfl,a1,b1⟩,by simp only[feetOs,a2,b2]⟩
end
mutual
theorem RepO.other {a:Addr}{o:HO}:∀ {t:OT} {v:V},RepO K F H t v->a∉feetO H t v->RepO K F (upd H a o) t v/\feetO (upd H a o) t v=feetO H t v
 |.frz _,_,r,_=>⟨r,rfl⟩
 |.lst ts,_,⟨b,vs,e,q,r⟩,hn=>by
  subst e
  simp only[feetO,xk q,List.mem_cons,not_or] at hn
  obtain⟨r1,r2⟩:=RepOs.other (o:=o) r hn.2
  have q':upd H a o b=some (.lst vs):=by rw[zf (Ne.symm hn.1)];exact q
  exact⟨⟨b,vs,rfl,q',r1⟩,by simp only[feetO,xk q,xk q',r2]⟩
 |.tup ts,_,⟨b,vs,e,q,r⟩,hn=>by
  subst e
  simp only[feetO,xa q,List.mem_cons,not_or] at hn
  obtain⟨r1,r2⟩:=RepOs.other (o:=o) r hn.2
  have q':upd H a o b=some (.tup vs):=by rw[zf (Ne.symm hn.1)];exact q
  exact⟨⟨b,vs,rfl,q',r1⟩,by simp only[feetO,xa q,xa q',r2]⟩
theorem RepOs.other {a:Addr}{o:HO}:∀ {ts:List OT} {vs:List V},RepOs K F H ts vs->a∉feetOs H ts vs->RepOs K F (upd H a o) ts vs/\feetOs (upd H a o) ts vs=feetOs H ts vs
 | [],_,r,_=>⟨r,rfl⟩
 |t::ts,_,⟨v,r,e,h1,h2⟩,hn=>by
  subst e
  simp only[feetOs,List.mem_append,not_or] at hn
  obtain⟨a1,a2⟩:=RepO.other (o:=o) h1 hn.1
  obtain⟨b1,b2⟩:=RepOs.other (o:=o) h2 hn.2
  exact⟨⟨v,r,rfl,a1,b1⟩,by simp only[feetOs,a2,b2]⟩
end
mutual
theorem RepO.feet {a:Addr}:∀ {t:OT} {v:V},RepO K F H t v->a∈feetO H t v->H a≠none
 |.frz _,_,_,h=>by simp[feetO] at h
 |.lst ts,_,⟨b,vs,e,q,r⟩,h=>by
  subst e
  simp only[feetO,xk q,List.mem_cons] at h
  rcases h with rfl | h
  ·rw[q];simp
  ·exact RepOs.feet r h
 |.tup ts,_,⟨b,vs,e,q,r⟩,h=>by
  subst e
  simp only[feetO,xa q,List.mem_cons] at h
  rcases h with rfl | h
  ·rw[q];simp
  ·exact RepOs.feet r h
theorem RepOs.feet {a:Addr}:∀ {ts:List OT} {vs:List V},RepOs K F H ts vs->a∈feetOs H ts vs->H a≠none
 | [],_,_,h=>by simp[feetOs] at h
 |t::ts,_,⟨v,r,e,h1,h2⟩,h=>by
  subst e
  simp only[feetOs,List.mem_append] at h
  rcases h with h | h
  ·exact RepO.feet h1 h
  ·exact RepOs.feet h2 h
end
mutual
theorem RepO.feet_no {a:Addr}:∀ {t:OT} {v:V},RepO K F H t v->a∈feetO H t v->∀z,H a≠some (.own z)
 |.frz _,_,_,h,_=>by simp[feetO] at h
 |.lst ts,_,⟨b,vs,e,q,r⟩,h,z=>by
  subst e
  simp only[feetO,xk q,List.mem_cons] at h
  rcases h with rfl | h
  ·rw[q];intro w;cases w
  ·exact RepOs.feet_no r h z
 |.tup ts,_,⟨b,vs,e,q,r⟩,h,z=>by
  subst e
  simp only[feetO,xa q,List.mem_cons] at h
  rcases h with rfl | h
  ·rw[q];intro w;cases w
  ·exact RepOs.feet_no r h z
theorem RepOs.feet_no {a:Addr}:∀ {ts:List OT} {vs:List V},RepOs K F H ts vs->a∈feetOs H ts vs->∀z,H a≠some (.own z)
 | [],_,_,h,_=>by simp[feetOs] at h
 |t::ts,_,⟨v,r,e,h1,h2⟩,h,z=>by
  subst e
  simp only[feetOs,List.mem_append] at h
  rcases h with h | h
  ·exact RepO.feet_no h1 h z
  ·exact RepOs.feet_no h2 h z
end
def addF (F H:Hp)(as:List Addr):Hp:=λb=>if b∈as then H b else F b
mutual
theorem RepO.fz {as:List Addr}(f:Same F (addF F H as)):∀ {t:OT} {v:V},RepO K F H t v->(∀a∈feetO H t v,a∈as)->Rp K (addF F H as) t.erase v
 |.frz _,_,r,_=>Rp.mono f r
 |.lst ts,_,⟨b,vs,e,q,r⟩,h=>by
  subst e
  simp only[feetO,xk q] at h
  exact⟨b,vs,rfl,by unfold addF;rw[if_pos (h b (by simp))];exact q,RepOs.fz f r λa ha=>h a (by simp[ha])⟩
 |.tup ts,_,⟨b,vs,e,q,r⟩,h=>by
  subst e
  simp only[feetO,xa q] at h
  exact⟨b,vs,rfl,by unfold addF;rw[if_pos (h b (by simp))];exact q,RepOs.fz f r λa ha=>h a (by simp[ha])⟩
theorem RepOs.fz {as:List Addr}(f:Same F (addF F H as)):∀ {ts:List OT} {vs:List V},RepOs K F H ts vs->(∀a∈feetOs H ts vs,a∈as)->Rps K (addF F H as) (erases ts) vs
 | [],_,r,_=>r
 |t::ts,_,⟨v,r,e,h1,h2⟩,h=>by
  subst e
  simp only[feetOs] at h
  exact⟨v,r,rfl,RepO.fz f h1 λa ha=>h a (by simp[ha]),RepOs.fz f h2 λa ha=>h a (by simp[ha])⟩
end
theorem Q2 {as:List Addr}(h:∀a∈as,F a=none):Same F (addF F H as):=λb u e=>by
 unfold addF
 rw[if_neg λz=>by rw[h b z] at e;cases e]
 exact e
end
inductive MT where
 |lf (d:D) | lst (ts:List MT) | tup (ts:List MT) | dct (ks:List Key) (ts:List MT) | obj (C:Addr) (fs:List Str) (ts:List MT)
mutual
def RepM (K:KW)(F H:Hp):MT->V->Prop
 |.lf d,v=>Rp K F d v
 |.lst ts,v=>∃a vs,v=.ref a/\H a=some (.lst vs)/\RepMs K F H ts vs
 |.tup ts,v=>∃a vs,v=.ref a/\H a=some (.tup vs)/\RepMs K F H ts vs
 |.dct ks ts,v=>∃a ob vs,v=.ref a/\H a=some (DX K.w a ob (ks.zip vs))/\ks.length=vs.length/\RepMs K F H ts vs
 |.obj C fs ts,v=>∃a dx vs,v=.ref a/\H a=some (.ins C dx (fs.zip vs))/\fs.length=vs.length/\H dx=some (.own a)/\fs≠[]/\RepMs K F H ts vs
def RepMs (K:KW)(F H:Hp):List MT->List V->Prop
 | [],vs=>vs=[]
 |t::ts,vs=>∃v r,vs=v::r/\RepM K F H t v/\RepMs K F H ts r
end
section
variable {K:KW}{F F' H H':Hp}
mutual
theorem RepM.ext (f:Same F F')(h:Same H H'):∀ {t:MT} {v:V},RepM K F H t v->RepM K F' H' t v
 |.lf _,_,r=>Rp.mono f r
 |.lst _,_,⟨a,vs,e,q,r⟩=>⟨a,vs,e,h _ _ q,RepMs.ext f h r⟩
 |.tup _,_,⟨a,vs,e,q,r⟩=>⟨a,vs,e,h _ _ q,RepMs.ext f h r⟩
 |.dct _ _,_,⟨a,ob,vs,e,q,l,r⟩=>⟨a,ob,vs,e,h _ _ q,l,RepMs.ext f h r⟩
 |.obj _ _ _,_,⟨a,dx,vs,e,q,l,o,n,r⟩=>⟨a,dx,vs,e,h _ _ q,l,h _ _ o,n,RepMs.ext f h r⟩
theorem RepMs.ext (f:Same F F')(h:Same H H'):∀ {ts:List MT} {vs:List V},RepMs K F H ts vs->RepMs K F' H' ts vs
 | [],_,r=>r
 |_::_,_,⟨v,w,e,r,q⟩=>⟨v,w,e,RepM.ext f h r,RepMs.ext f h q⟩
end
mutual
def OT.toM:OT->MT
 |.frz d=>.lf d
 |.lst ts=>.lst (toMs ts)
 |.tup ts=>.tup (toMs ts)
def toMs:List OT->List MT
 | []=>[]
 |t::ts=>t.toM::toMs ts
end
end
def Rkv (K:KW)(F:Hp)(kvs:List (Key×D))(vs:List (Key×V)):Prop:=Paired (λp q=>p.1=q.1/\Rp K F p.2 q.2) kvs vs
theorem Rkv.mono {K:KW}{F F':Hp}(s:Same F F'){kvs:List (Key×D)}{vs:List (Key×V)}(r:Rkv K F kvs vs):Rkv K F' kvs vs:=Paired.mapP r λ_ _ h=>⟨h.1,h.2.mono s⟩
inductive En where
 |val (d:D) | acc (ds:List D) | bor (ds:List D) | oac (a dx C:Addr) (fs:List Str) (ds:List D) | tre (t:OT)
  |dct (oa:Option Addr) (kvs:List (Key×D)) | dbo (kvs:List (Key×D))
  |exn (a:Addr)
  |obw (C:Addr) (fs:List Str) (ds:List D)
  |mbo (t:MT)
abbrev EnvD:=List (Option En)
structure Bs where
 F0:Hp
 H0:Hp
def RepE (K:KW)(B:Bs)(F H:Hp):En->V->Prop
 |.val d,v=>Rp K F d v
 |.acc ds,v=>∃a vs,v=.ref a/\H a=some (.lst vs)/\F a=none/\B.H0 a=none/\Rps K F ds vs
 |.bor ds,v=>∃a vs,v=.ref a/\B.H0 a=some (.lst vs)/\Rps K F ds vs
 |.oac a dx C fs ds,v=>∃vs,v=.ref a/\H a=some (.ins C dx (fs.zip vs))/\fs.length=vs.length/\F a=none/\B.H0 a=none/\Rps K F ds vs/\H dx=some (.own a)/\F dx=none/\B.H0 dx=none
 |.tre t,v=>RepO K F H t v/\(feetO H t v).Nodup/\∀a∈feetO H t v,F a=none/\B.H0 a=none
 |.dct oa kvs,v=>∃a ob vs,v=.ref a/\H a=some (DX K.w a ob vs)/\F a=none/\B.H0 a=none/\Rkv K F kvs vs/\∀b,oa=some b->b=a
 |.dbo kvs,v=>∃a ob vs,v=.ref a/\B.H0 a=some (DX K.w a ob vs)/\Rkv K F kvs vs
 |.exn a,v=>v=.ref a
 |.obw C fs ds,v=>∃a dx vs,v=.ref a/\H a=some (.ins C dx (fs.zip vs))/\fs.length=vs.length/\F a=none/\B.H0 a=none/\Rps K F ds vs/\H dx=some (.own a)/\F dx=none/\B.H0 dx=none
 |.mbo t,v=>RepM K F B.H0 t v
def En.own:En->Bool
 |.acc _=>true
 |.dct _ _=>true
 |.oac _ _ _ _ _=>true
 |.obw _ _ _=>true
 |_=>false
def feetE (H:Hp):En->V->List Addr
 |.acc _,v=>match v with
  |.ref a=>[a]
  |_=>[]
 |.oac _ _ _ _ _,v=>match v with
  |.ref a=>[a]
  |_=>[]
 |.tre t,v=>feetO H t v
 |.obw _ _ _,v=>match v with
  |.ref a=>[a]
  |_=>[]
 |.dct _ _,v=>match v with
  |.ref a=>[a]
  |_=>[]
 |_,_=>[]
theorem qN {H:Hp}{x:En}{a:Addr}(o:x.own=true):feetE H x (.ref a)=[a]:=by cases x<;>first | rfl | cases o
structure Rep (K:KW)(B:Bs)(F:Hp)(σ:St)(H:Hp)(ρ:EnvD):Prop where
 ex:Ext B.F0 B.H0 F H
 len:σ.length=ρ.length
 ents:∀(i:Nat) x,ρ[i]?=some (some x)->∃v,σ[i]?=some (some v)/\RepE K B F H x v
 dj:∀(i j:Nat) x y v w,ρ[i]?=some (some x)->ρ[j]?=some (some y)->σ[i]?=some (some v)->σ[j]?=some (some w)->i≠j->∀a∈feetE H x v,a∉feetE H y w
section
variable {K:KW}{B:Bs}{F F' H H':Hp}{σ:St}{ρ:EnvD}
theorem xw {a:Addr}(e:Ext F H F' H')(h:F a=none)(hh:H a≠none):F' a=none:=by
 cases q:F' a with
 |none=>rfl
 |some o=>exact ((e.nw a (by rw[q];simp)).elim (λz=>(z h).elim) λz=>(hh z).elim)
theorem RepE.ext {x:En}{v:V}(r:RepE K B F H x v)(e:Ext F H F' H'):RepE K B F' H' x v:=by
 cases x with
 |val d=>exact Rp.mono e.ff r
 |acc ds=>
  obtain⟨a,vs,e1,e2,e3,e4,e5⟩:=r
  exact⟨a,vs,e1,e.hh _ _ e2,xw e e3 (by rw[e2];simp),e4,e5.mono e.ff⟩
 |bor ds=>
  obtain⟨a,vs,e1,e2,e5⟩:=r
  exact⟨a,vs,e1,e2,e5.mono e.ff⟩
 |oac a dx C fs ds=>
  obtain⟨vs,e1,e2,el,e3,e4,e5,d1,d2,d3⟩:=r
  exact⟨vs,e1,e.hh _ _ e2,el,xw e e3 (by rw[e2];simp),e4,e5.mono e.ff,e.hh _ _ d1,xw e d2 (by rw[d1];simp),d3⟩
 |tre t=>
  obtain⟨r1,r2,r3⟩:=r
  obtain⟨s1,s2⟩:=RepO.ext e.ff e.hh r1
  refine⟨s1,by rw[s2];exact r2,λa ha=>?_⟩
  rw[s2] at ha
  exact⟨xw e (r3 a ha).1 (RepO.feet r1 ha),(r3 a ha).2⟩
 |dct oa kvs=>
  obtain⟨a,ob,vs,e1,e2,e3,e4,e5,e6⟩:=r
  exact⟨a,ob,vs,e1,e.hh _ _ e2,xw e e3 (by rw[e2];simp),e4,e5.mono e.ff,e6⟩
 |dbo kvs=>
  obtain⟨a,ob,vs,e1,e2,e5⟩:=r
  exact⟨a,ob,vs,e1,e2,e5.mono e.ff⟩
 |exn a=>exact r
 |mbo t=>exact RepM.ext e.ff (Same.refl _) r
 |obw C fs ds=>
  obtain⟨a,dx,vs,e1,e2,el,e3,e4,e5,d1,d2,d3⟩:=r
  exact⟨a,dx,vs,e1,e.hh _ _ e2,el,xw e e3 (by rw[e2];simp),e4,e5.mono e.ff,e.hh _ _ d1,xw e d2 (by rw[d1];simp),d3⟩
theorem RepE.feet_ext {x:En}{v:V}(r:RepE K B F H x v)(e:Same H H'):feetE H' x v=feetE H x v:=by
 cases x with
 |tre t=>exact (RepO.ext (Same.refl F) e r.1).2
 |_=>rfl
theorem RepE.feet_at {x:En}{v:V}{a:Addr}(r:RepE K B F H x v)(h:a∈feetE H x v):H a≠none/\F a=none/\B.H0 a=none:=by
 cases x with
 |val d=>cases h
 |bor ds=>cases h
 |acc ds=>
  obtain⟨b,vs,rfl,e2,e3,e4,e5⟩:=r
  simp only[feetE,List.mem_singleton] at h
  subst h
  exact⟨by rw[e2];simp,e3,e4⟩
 |oac b dx C fs ds=>
  obtain⟨vs,rfl,e2,el,e3,e4,e5⟩:=r
  simp only[feetE,List.mem_singleton] at h
  subst h
  exact⟨by rw[e2];simp,e3,e4⟩
 |tre t=>exact⟨RepO.feet r.1 h,r.2.2 a h⟩
 |dct oa kvs=>
  obtain⟨b,ob,vs,rfl,e2,e3,e4,e5⟩:=r
  simp only[feetE,List.mem_singleton] at h
  subst h
  exact⟨by rw[e2];simp,e3,e4⟩
 |dbo kvs=>cases h
 |exn a=>cases h
 |mbo t=>cases h
 |obw C fs ds=>
  obtain⟨b,dx,vs,rfl,e2,el,e3,e4,e5⟩:=r
  simp only[feetE,List.mem_singleton] at h
  subst h
  exact⟨by rw[e2];simp,e3,e4⟩
theorem RepE.feet_no {x:En}{v:V}{a:Addr}(r:RepE K B F H x v)(h:a∈feetE H x v)(z:Addr):H a≠some (.own z):=by
 cases x with
 |val d=>cases h
 |bor ds=>cases h
 |acc ds=>
  obtain⟨b,vs,rfl,e2,_⟩:=r
  simp only[feetE,List.mem_singleton] at h
  subst h
  rw[e2];intro q;cases q
 |oac b dx C fs ds=>
  obtain⟨vs,rfl,e2,_⟩:=r
  simp only[feetE,List.mem_singleton] at h
  subst h
  rw[e2];intro q;cases q
 |tre t=>exact RepO.feet_no r.1 h z
 |dct oa kvs=>
  obtain⟨b,ob,vs,rfl,e2,_⟩:=r
  simp only[feetE,List.mem_singleton] at h
  subst h
  rw[e2];intro q;cases q
 |dbo kvs=>cases h
 |exn a=>cases h
 |mbo t=>cases h
 |obw C fs ds=>
  obtain⟨b,dx,vs,rfl,e2,_⟩:=r
  simp only[feetE,List.mem_singleton] at h
  subst h
  rw[e2];intro q;cases q
theorem Rep.ext (r:Rep K B F σ H ρ)(e:Ext F H F' H'):Rep K B F' σ H' ρ:=by
 refine⟨r.ex.trans e,r.len,λi x h=>let ⟨v,h1,h2⟩:=r.ents i x h;⟨v,h1,h2.ext e⟩,λi j x y v w e1 e2 s1 s2 hne a ha hb=>?_⟩
 obtain⟨v',q1,p1⟩:=r.ents i x e1
 rw[s1] at q1;cases q1
 obtain⟨w',q2,p2⟩:=r.ents j y e2
 rw[s2] at q2;cases q2
 rw[p1.feet_ext e.hh] at ha
 rw[p2.feet_ext e.hh] at hb
 exact r.dj i j x y v w e1 e2 s1 s2 hne a ha hb
theorem Rep.fh (r:Rep K B F σ H ρ):Same F H:=r.ex.fh
theorem xj {α:Type}{l:List α}{i j:Nat}{x y:α}(h:(l.set i x)[j]?=some y):(j=i/\x=y/\i < l.length)∨(j≠i/\l[j]?=some y):=by
 by_cases hj:j=i
 ·subst hj
  have hl:j < l.length:=by
   have:=(List.getElem?_eq_some_iff.mp h).1
   simpa using this
  rw[List.getElem?_set_self hl] at h
  cases h
  exact .inl ⟨rfl,rfl,hl⟩
 ·rw[List.getElem?_set_ne (Ne.symm hj)] at h
  exact .inr ⟨hj,h⟩
theorem Rep.seto (r:Rep K B F σ H ρ){i:Nat}{x:En}{v:V}(h:RepE K B F H x v)(hn:∀(j:Nat) y w,ρ[j]?=some (some y)->σ[j]?=some (some w)->j≠i->∀a∈feetE H x v,a∉feetE H y w):Rep K B F (σ.set i (some v)) H (ρ.set i (some x)):=by
 refine⟨r.ex,by simp[r.len],λj y e=>?_,λj k y z u w e1 e2 s1 s2 hne a ha hb=>?_⟩
 ·rcases xj e with⟨rfl,q,hl⟩ | ⟨hj,e⟩
  ·cases q
   exact⟨v,List.getElem?_set_self (by rw[r.len];exact hl),h⟩
  ·obtain⟨w,h1,h2⟩:=r.ents j y e
   exact⟨w,by rw[List.getElem?_set_ne (Ne.symm hj)];exact h1,h2⟩
 ·rcases xj e1 with⟨rfl,q1,_⟩ | ⟨hj,f1⟩<;>rcases xj e2 with⟨rfl,q2,_⟩ | ⟨hk,f2⟩
  ·exact hne rfl
  ·cases q1
   rcases xj s1 with⟨_,p1,_⟩ | ⟨z,_⟩
   ·cases p1
    rw[List.getElem?_set_ne (Ne.symm hk)] at s2
    exact hn k z w f2 s2 hk a ha hb
   ·exact (z rfl).elim
  ·cases q2
   rcases xj s2 with⟨_,p2,_⟩ | ⟨z,_⟩
   ·cases p2
    rw[List.getElem?_set_ne (Ne.symm hj)] at s1
    exact hn j y u f1 s1 hj a hb ha
   ·exact (z rfl).elim
  ·rw[List.getElem?_set_ne (Ne.symm hj)] at s1
   rw[List.getElem?_set_ne (Ne.symm hk)] at s2
   exact r.dj j k y z u w f1 f2 s1 s2 hne a ha hb
theorem Rep.setv (r:Rep K B F σ H ρ){i:Nat}{d:D}{v:V}(h:Rp K F d v):Rep K B F (σ.set i (some v)) H (ρ.set i (some (.val d))) :=
 r.seto (x:=.val d) h λ_ _ _ _ _ _ a ha=>by cases ha
theorem RepE.other {x:En}{v:V}{a:Addr}{o:HO}(r:RepE K B F H x v)(hn:a∉feetE H x v)(h0:B.H0 a=none)(hw:∀z,H a≠some (.own z)):RepE K B F (upd H a o) x v/\feetE (upd H a o) x v=feetE H x v:=by
 cases x with
 |val d=>exact⟨r,rfl⟩
 |bor ds=>exact⟨r,rfl⟩
 |acc ds=>
  obtain⟨b,vs,rfl,q2,q3,q4,q5⟩:=r
  have hb:b≠a:=λz=>hn (by simp[feetE,z])
  exact⟨⟨b,vs,rfl,by rw[zf hb];exact q2,q3,q4,q5⟩,rfl⟩
 |oac b dx C fs ds=>
  obtain⟨vs,rfl,q2,ql,q3,q4,q5,d1,d2,d3⟩:=r
  have hb:b≠a:=λz=>hn (by simp[feetE,z])
  have hd:dx≠a:=λz=>hw b (by rw[<-z];exact d1)
  exact⟨⟨vs,rfl,by rw[zf hb];exact q2,ql,q3,q4,q5,by rw[zf hd];exact d1,d2,d3⟩,rfl⟩
 |tre t=>
  obtain⟨r1,r2,r3⟩:=r
  obtain⟨s1,s2⟩:=RepO.other (o:=o) r1 hn
  exact⟨⟨s1,by rw[s2];exact r2,λb hb=>r3 b (by rw[s2] at hb;exact hb)⟩,s2⟩
 |dct oa kvs=>
  obtain⟨b,ob,vs,rfl,q2,q3,q4,q5⟩:=r
  have hb:b≠a:=λz=>hn (by simp[feetE,z])
  exact⟨⟨b,ob,vs,rfl,by rw[zf hb];exact q2,q3,q4,q5⟩,rfl⟩
 |dbo kvs=>exact⟨r,rfl⟩
 |exn a=>exact⟨r,rfl⟩
 |mbo t=>exact⟨r,rfl⟩
 |obw C fs ds=>
  obtain⟨b,dx,vs,rfl,q2,ql,q3,q4,q5,d1,d2,d3⟩:=r
  have hb:b≠a:=λz=>hn (by simp[feetE,z])
  have hd:dx≠a:=λz=>hw b (by rw[<-z];exact d1)
  exact⟨⟨b,dx,vs,rfl,by rw[zf hb];exact q2,ql,q3,q4,q5,by rw[zf hd];exact d1,d2,d3⟩,rfl⟩
theorem Rep.writeG (r:Rep K B F σ H ρ){i:Nat}{x y:En}{v:V}{a:Addr}{o:HO}(hi:ρ[i]?=some (some x))(hs:σ[i]?=some (some v))(ha:a∈feetE H x v)(hy:RepE K B F (upd H a o) y v)(hsub:∀b∈feetE (upd H a o) y v,b∈feetE H x v) :
  Rep K B F σ (upd H a o) (ρ.set i (some y)):=by
 have hl:i < ρ.length:=(List.getElem?_eq_some_iff.mp hi).1
 obtain⟨v',hv',rx⟩:=r.ents i x hi
 rw[hs] at hv';cases hv'
 obtain⟨_,hf,h0⟩:=rx.feet_at ha
 have oth:∀ {j:Nat} {z:En} {w:V},ρ[j]?=some (some z)->σ[j]?=some (some w)->j≠i->RepE K B F (upd H a o) z w/\feetE (upd H a o) z w=feetE H z w:=fun {j z w} e s hj=>by
  obtain⟨w',hw',rz⟩:=r.ents j z e
  rw[s] at hw';cases hw'
  exact rz.other (λhz=>r.dj i j x z v w hi e hs s (Ne.symm hj) a ha hz) h0 (rx.feet_no ha)
 refine⟨⟨r.ex.ff,λb u e=>?_,λb u e=>?_,r.ex.nw⟩,by simp[r.len],λj z e=>?_,λj k z w u t e1 e2 s1 s2 hne b hb hc=>?_⟩
 ·rw[zf (zI e h0)];exact r.ex.hh b u e
 ·rw[zf (zI e hf)];exact r.ex.fh b u e
 ·rcases xj e with⟨rfl,q,_⟩ | ⟨hj,e⟩
  ·cases q;exact⟨v,hs,hy⟩
  ·obtain⟨w,h1,_⟩:=r.ents j z e
   exact⟨w,h1,(oth e h1 hj).1⟩
 ·rcases xj e1 with⟨rfl,q1,_⟩ | ⟨hj,f1⟩<;>rcases xj e2 with⟨rfl,q2,_⟩ | ⟨hk,f2⟩
  ·exact hne rfl
  ·cases q1
   rw[hs] at s1;cases s1
   rw[(oth f2 s2 hk).2] at hc
   exact r.dj _ k x w v t hi f2 hs s2 hne b (hsub b hb) hc
  ·cases q2
   rw[hs] at s2;cases s2
   rw[(oth f1 s1 hj).2] at hb
   exact r.dj j _ z x u v f1 hi s1 hs hne b hb (hsub b hc)
  ·rw[(oth f1 s1 hj).2] at hb
   rw[(oth f2 s2 hk).2] at hc
   exact r.dj j k z w u t f1 f2 s1 s2 hne b hb hc
theorem Rep.write (r:Rep K B F σ H ρ){i:Nat}{x y:En}{a:Addr}{o:HO}(hi:ρ[i]?=some (some x))(ho:x.own=true)(hs:σ[i]?=some (some (.ref a)))(hf:F a=none)(h0:B.H0 a=none)(hy:RepE K B F (upd H a o) y (.ref a))(hyo:y.own=true) :
  Rep K B F σ (upd H a o) (ρ.set i (some y)) :=
 r.writeG hi hs (by rw[qN ho];simp) hy λb hb=>by rw[qN hyo] at hb;rw[qN ho];exact hb
end
abbrev Post (α:Type):=Hp->Hp->Hp->Hp->α->V->Prop
inductive Lq {α:Type} (K:KW) (B:Bs) (g:EnvD->Option α) (σ:St) (H:Hp) (P:Hp->EnvD->α->Prop):Prop
 |mk (F:Hp) (ρ:EnvD) (x:α) (r:Rep K B F σ H ρ) (hg:g ρ=some x) (k:P F ρ x)
theorem Lq.el {α:Type}{K:KW}{B:Bs}{g:EnvD->Option α}{σ:St}{H:Hp}{P:Hp->EnvD->α->Prop}{C:Prop}(h:Lq K B g σ H P)(f:∀F ρ x,Rep K B F σ H ρ->g ρ=some x->P F ρ x->C):C:=by
 cases h with
 |mk F ρ x r hg k=>exact f F ρ x r hg k
def lG {α:Type}(K:KW)(B:Bs)(post:Post α)(g:EnvD->Option α):TE:=λσ H Q=>
 Lq K B g σ H λF ρ x=>∀v F' H',Ext F H F' H'->post F H F' H' x v->Q v H'
def pE (K:KW):Post D:=λ_ _ F' _ d v=>Rp K F' d v
def pR (K:KW):Post D:=λ_ _ F' H' d v=>Rq K F' H' d v
def pA (K:KW):Post (List D):=λ_ H F' H' ds v=>∃a vs,v=.ref a/\H a=none/\H' a=some (.lst vs)/\F' a=none/\Rps K F' ds vs
def DE (X:Cx)(B:Bs)(e:Expr)(g:EnvD->Option D):Prop:=PE X e (lG X.kw B (pE X.kw) g)
def DR (X:Cx)(B:Bs)(e:Expr)(g:EnvD->Option D):Prop:=PE X e (lG X.kw B (pR X.kw) g)
def DA (X:Cx)(B:Bs)(e:Expr)(g:EnvD->Option (List D)):Prop:=PE X e (lG X.kw B (pA X.kw) g)
def lT (K:KW)(B:Bs)(g:EnvD->Option Bool):TT:=λσ H Q=>Lq K B g σ H λF ρ b=>∀F' H',Ext F H F' H'->Q b H'
def DT (X:Cx)(B:Bs)(e:Expr)(g:EnvD->Option Bool):Prop:=PT X e (lT X.kw B g)
def DW (X:Cx)(B:Bs)(e:Expr)(g:EnvD->Option Bool):Prop:=PW X e (lT X.kw B g)
def lAs (K:KW)(B:Bs)(post:Post D)(g:EnvD->Option (List D)):TA:=λσ H Q=>
 Lq K B g σ H λF ρ ds=>∀vs F' H',Ext F H F' H'->Paired (λd v=>post F H F' H' d v) ds vs->Q vs H'
def DAs (X:Cx)(B:Bs)(es:List Expr)(g:EnvD->Option (List D)):Prop:=PA X es (lAs X.kw B (pE X.kw) g)
def DRs (X:Cx)(B:Bs)(es:List Expr)(g:EnvD->Option (List D)):Prop:=PA X es (lAs X.kw B (pR X.kw) g)
section
variable {X:Cx}{B:Bs}{e a b c:Expr}{es:List Expr}{pos:Pos}
theorem zr {t t':TE}(h:PE X e t)(k:∀σ H Q,t' σ H Q->t σ H Q):PE X e t':=λpins s σ H Q I q=>h pins s σ H Q I (k σ H Q q)
theorem vF {t t':TT}(h:PT X e t)(k:∀σ H Q,t' σ H Q->t σ H Q):PT X e t':=λpins s σ H Q I q=>h pins s σ H Q I (k σ H Q q)
theorem ZJ {t t':TT}(h:PW X e t)(k:∀σ H Q,t' σ H Q->t σ H Q):PW X e t':=λwh pins s σ H Q I q=>h wh pins s σ H Q I (k σ H Q q)
theorem xl {t t':TA}(h:PA X es t)(k:∀σ H Q,t' σ H Q->t σ H Q):PA X es t':=λpo pins s σ H Q I q=>h po pins s σ H Q I (k σ H Q q)
theorem zW {st:Stmt}{t t':TS}(h:PS X st t)(k:∀E σ H,t' E σ H->t E σ H):PS X st t':=λpins s σ H E I q=>h pins s σ H E I (k E σ H q)
theorem wN {st:List Stmt}{t t':TS}(h:PSs X st t)(k:∀E σ H,t' E σ H->t E σ H):PSs X st t':=λpins s σ H E I q=>h pins s σ H E I (k E σ H q)
theorem vL {tg:Expr}{t t':TI}(h:PI X tg e t)(k:∀σ H Q,t' σ H Q->t σ H Q):PI X tg e t':=λpins s σ H Q I q=>h pins s σ H Q I (k σ H Q q)
theorem DE.read {g:EnvD->Option D}(h:DE X B e g):DR X B e g :=
 zr h λσ H Q zz=>zz.el λF ρ x r hg k=>⟨F,ρ,x,r,hg,λv F' H' e p=>k v F' H' e (.inl p)⟩
def gFz (g:EnvD->Option (List D)):EnvD->Option D:=λρ=>(g ρ).map D.lst
theorem DA.frz {g:EnvD->Option (List D)}(h:DA X B e g):DE X B e (gFz g) :=
 zr h λσ H Q zz=>zz.el λF ρ x r hg k=>by
  unfold gFz at hg
  cases q:g ρ with
  |none=>rw[q] at hg;cases hg
  |some ds=>
   rw[q] at hg;cases hg
   refine⟨F,ρ,ds,r,q,λv F' H' e p=>?_⟩
   obtain⟨a,vs,rfl,p1,p2,p3,p4⟩:=p
   exact k _ (upd F' a (.lst vs)) H' (e.freeze p1 p3 p2) ⟨a,vs,rfl,zm,p4.mono (ya p3)⟩
theorem DA.read {g:EnvD->Option (List D)}(h:DA X B e g):DR X B e (gFz g):=h.frz.read
def gv (i:Nat):EnvD->Option D:=λρ=>match ρ[i]? with
 |some (some (.val d))=>some d
 |_=>none
def gr (i:Nat):EnvD->Option D:=λρ=>match ρ[i]? with
 |some (some (.val d))=>some d
 |some (some (.acc ds))=>some (.lst ds)
 |some (some (.bor ds))=>some (.lst ds)
 |_=>none
theorem zl (i:Nat){x:Str}(h:PE X (.Name x pos) (tVar i):=by exact pv _):DE X B (.Name x pos) (gv i) :=
 zr h λσ H Q zz=>zz.el λF ρ d r hg k=>by
  unfold gv at hg
  split at hg
  ·rename_i d' e
   cases hg
   obtain⟨v,h1,h2⟩:=r.ents i _ e
   exact⟨v,h1,k v F H (.refl r.fh) h2⟩
  ·cases hg
theorem zb (i:Nat){x:Str}(h:PE X (.Name x pos) (tVar i):=by exact pv _):DR X B (.Name x pos) (gr i) :=
 zr h λσ H Q zz=>zz.el λF ρ d r hg k=>by
  unfold gr at hg
  split at hg
  ·rename_i d' e
   cases hg
   obtain⟨v,h1,h2⟩:=r.ents i _ e
   exact⟨v,h1,k v F H (.refl r.fh) (.inl h2)⟩
  ·rename_i ds e
   cases hg
   obtain⟨v,h1,a,vs,e1,e2,e3,e4,e5⟩:=r.ents i _ e
   exact⟨v,h1,k v F H (.refl r.fh) (.inr ⟨a,vs,ds,rfl,e1,e2,e5⟩)⟩
  ·rename_i ds e
   cases hg
   obtain⟨v,h1,a,vs,e1,e2,e5⟩:=r.ents i _ e
   exact⟨v,h1,k v F H (.refl r.fh) (.inr ⟨a,vs,ds,rfl,e1,r.ex.hh _ _ e2,e5⟩)⟩
  ·cases hg
def gc (d:D):EnvD->Option D:=λ_=>some d
theorem jx {v:V}{d:D}(h:PE X e (tC v))(r:∀F,Rp X.kw F d v):DE X B e (gc d) :=
 zr h λσ H Q zz=>zz.el λF ρ d' rr hg k=>by cases hg;exact k v F H (.refl rr.fh) (r F)
theorem de_int {i:Int}{j}:DE X B (.Constant (.int i) j pos) (gc (.int i)):=jx uT λ_=>rfl
theorem z9 {i:Bool}{j}:DE X B (.Constant (.bool i) j pos) (gc (.bl i)):=jx WM λ_=>rfl
theorem vc {j}:DE X B (.Constant .none j pos) (gc .non):=jx Jd λ_=>rfl
theorem zK {x:Str}{j}:DE X B (.Constant (.str x) j pos) (gc (.str x)):=jx Z3 λ_=>rfl
theorem yz {x:Str}{v:V}{u:Value}{d:D}(hg:Gl X x)(hm:X.mg x=some u)(r:RelV v u)(rd:∀F,Rp X.kw F d v)(hd:(x==("__debug__" : Str))=false:=by decide):DE X B (.Name x pos) (gc d) :=
 zr (Zf hg hm r hd) λσ H Q zz=>zz.el λF ρ d' rr hg k=>by cases hg;exact k v F H (.refl rr.fh) (rd F)
def g2 {γ:Type}(f:D->D->Option γ)(ga gb:EnvD->Option D):EnvD->Option γ:=λρ=>(ga ρ).bind λx=>(gb ρ).bind λy=>f x y
def OkR {γ:Type}(K:KW)(r:R2)(pc:Post γ)(f:D->D->Option γ):Prop :=
 ∀F H x y dx dy d Q,Same F H->Rq K F H dx x->Rq K F H dy y->f dx dy=some d->(∀v F' H',Ext F H F' H'->pc F H F' H' d v->Q v H')->r x y H Q
def Back {γ:Type}(pc:Post γ):Prop:=∀F H F1 H1 F' H' d v,Ext F H F1 H1->pc F1 H1 F' H' d v->pc F H F' H' d v
theorem va {K:KW}:Back (pE K):=λ_ _ _ _ _ _ _ _ _ h=>h
theorem uD {K:KW}:Back (pA K):=λ_ _ _ _ _ _ _ _ e ⟨a,vs,h1,h2,h⟩=>⟨a,vs,h1,e.hh.free h2,h⟩
theorem op2 {γ:Type}{r:R2}{pc:Post γ}{f:D->D->Option γ}(hb:Back pc)(hr:OkR X.kw r pc f){ga gb:EnvD->Option D}{σ:St}{H:Hp}{Q:VK}(h:lG X.kw B pc (g2 f ga gb) σ H Q) :
  tOp r (lG X.kw B (pR X.kw) ga) (lG X.kw B (pR X.kw) gb) σ H Q:=by
 refine Lq.el h λF ρ d rr hg k=>?_
 unfold g2 at hg
 cases qa:ga ρ with
 |none=>rw[qa] at hg;cases hg
 |some dx=>
  cases qb:gb ρ with
  |none=>rw[qa,qb] at hg;cases hg
  |some dy=>
   rw[qa,qb] at hg
   refine⟨F,ρ,dx,rr,qa,λx F1 H1 e1 p1=>⟨F1,ρ,dy,rr.ext e1,qb,λy F2 H2 e2 p2=>?_⟩⟩
   exact hr F2 H2 x y dx dy d Q e2.fh (p1.mono e2.ff e2.hh) p2 hg λv F' H' e p=>k v F' H' (e1.trans (e2.trans e)) (hb _ _ _ _ _ _ _ _ (e1.trans e2) p)
theorem yX {op:Operator}{r:R2}{f:D->D->Option D}{ga gb:EnvD->Option D}(ho:OpR X (binaryOp op) r)(hr:OkR X.kw r (pE X.kw) f)(ha:DR X B a ga)(hb:DR X B b gb):DE X B (.BinOp a op b pos) (g2 f ga gb) :=
 zr (ZP ho ha hb) λσ H Q h=>op2 va hr h
theorem ZR {op:Operator}{r:R2}{f:D->D->Option (List D)}{ga gb:EnvD->Option D}(ho:OpR X (binaryOp op) r)(hr:OkR X.kw r (pA X.kw) f)(ha:DR X B a ga)(hb:DR X B b gb):DA X B (.BinOp a op b pos) (g2 f ga gb) :=
 zr (ZP ho ha hb) λσ H Q h=>op2 uD hr h
theorem yt {op:CmpOp}{r:R2}{f:D->D->Option D}{ga gb:EnvD->Option D}(ho:OpR X (compareOp op) r)(hr:OkR X.kw r (pE X.kw) f)(ha:DR X B a ga)(hb:DR X B b gb)(hm:behindInMarks op b=false):DE X B (.Compare a [op] [b] pos) (g2 f ga gb) :=
 zr (VR ho ha hb hm) λσ H Q h=>op2 va hr h
theorem JX {r:R2}{f:D->D->Option D}{ga gb:EnvD->Option D}(ho:IxR X r)(hr:OkR X.kw r (pE X.kw) f)(ha:DR X B a ga)(hb:DR X B b gb)(hs:jV b):DE X B (.Subscript a b pos) (g2 f ga gb) :=
 zr (Jf ho ha hb hs) λσ H Q h=>op2 va hr h
def fI (C:Int->Int->Bool)(f:Int->Int->D):D->D->Option D
 |.int i,.int j=>if C i j then some (f i j) else none
 |_,_=>none
theorem okI {K:KW}{C:Int->Int->Prop}{p:Int->Int->Bool}{f:Int->Int->D}{g:Int->Int->V}(hp:∀i j,p i j=true->C i j)(hf:∀i j F,Rp K F (f i j) (g i j)):OkR K (rI C g) (pE K) (fI p f):=by
 intro F H x y dx dy d Q s rx ry e k
 unfold fI at e
 split at e
 ·rename_i i j
  split at e
  ·rename_i hc
   cases e
   exact⟨i,j,rx.int,ry.int,hp i j hc,k _ F H (.refl s) (hf i j F)⟩
  ·cases e
 ·cases e
theorem okI0 {K:KW}{f:Int->Int->D}{g:Int->Int->V}(hf:∀i j F,Rp K F (f i j) (g i j)):OkR K (rI0 g) (pE K) (fI (λ_ _=>true) f):=by
 intro F H x y dx dy d Q s rx ry e k
 unfold fI at e
 split at e
 ·rename_i i j
  rw[if_pos rfl] at e
  cases e
  exact⟨i,j,rx.int,ry.int,k _ F H (.refl s) (hf i j F)⟩
 ·cases e
def fSub:=fI (λ_ _=>true) λi j=>.int (i - j)
def LIM:Int:=18446744073709551616
def fMul:=fI (λi j=>(decide (-LIM < i)&&decide (i < LIM))||(decide (-LIM < j)&&decide (j < LIM))) λi j=>.int (i * j)
def fDiv:=fI (λ_ j=>decide (0 < j)&&decide (j < 1073741824)) λi j=>.int (i / j)
def fMod:=fI (λ_ j=>decide (0 < j)) λi j=>.int (i % j)
def fShr:=fI (λ_ j=>decide (0<=j)) λi j=>.int (i / 2 ^ j.toNat)
def fAnd:=fI (λ_ _=>true) λi j=>.int (Builtin.bitAnd i j)
def fPow:=fI (λi j=>decide (0<=j)&&decide (j<=1000000)&&decide (i.natAbs < 18446744073709551616)) λi j=>.int (i ^ j.toNat)
variable {ga gb:EnvD->Option D}
theorem xB (ha:DR X B a ga)(hb:DR X B b gb):DE X B (.BinOp a .Sub b pos) (g2 fSub ga gb):=yX Wi (okI0 λ_ _ _=>rfl) ha hb
theorem xp (ha:DR X B a ga)(hb:DR X B b gb):DE X B (.BinOp a .Mult b pos) (g2 fMul ga gb):=yX Ve (okI (λi j h=>by
 simp only[Bool.or_eq_true,Bool.and_eq_true,decide_eq_true_eq] at h
 unfold LIM at h
 rcases h with⟨h1,h2⟩ | ⟨h1,h2⟩
 ·exact .inl ⟨by omega,by omega⟩
 ·exact .inr ⟨by omega,by omega⟩) λ_ _ _=>rfl) ha hb
theorem yJ (ha:DR X B a ga)(hb:DR X B b gb):DE X B (.BinOp a .FloorDiv b pos) (g2 fDiv ga gb):=yX Ka (okI (λi j h=>by
 simp only[Bool.and_eq_true,decide_eq_true_eq] at h
 exact h) λ_ _ _=>rfl) ha hb
theorem zV (ha:DR X B a ga)(hb:DR X B b gb):DE X B (.BinOp a .Mod b pos) (g2 fMod ga gb):=yX VY (okI (λi j h=>by
 simp only[decide_eq_true_eq] at h
 exact h) λ_ _ _=>rfl) ha hb
theorem Ua (ha:DR X B a ga)(hb:DR X B b gb):DE X B (.BinOp a .RShift b pos) (g2 fShr ga gb):=yX QJ (okI (λi j h=>by
 simp only[decide_eq_true_eq] at h
 exact h) λ_ _ _=>rfl) ha hb
theorem V3 (ha:DR X B a ga)(hb:DR X B b gb):DE X B (.BinOp a .BitAnd b pos) (g2 fAnd ga gb):=yX K9 (okI0 λ_ _ _=>rfl) ha hb
theorem ju (ha:DR X B a ga)(hb:DR X B b gb):DE X B (.BinOp a .Pow b pos) (g2 fPow ga gb):=yX QO (okI (λi j h=>by
 simp only[Bool.and_eq_true,decide_eq_true_eq] at h
 exact⟨h.1.1,h.1.2,by have:=h.2;omega⟩) λ_ _ _=>rfl) ha hb
def fLt:=fI (λ_ _=>true) λi j=>.bl (decide (i < j))
def fLe:=fI (λ_ _=>true) λi j=>.bl (decide (i<=j))
def fGt:=fI (λ_ _=>true) λi j=>.bl (decide (j < i))
theorem xU {K:KW}:OkR K (rI0 λi j=>.bl (decide (i < j))) (pE K) fLt:=okI0 λ_ _ _=>rfl
theorem wL {K:KW}:OkR K (rI0 λi j=>.bl (decide (i<=j))) (pE K) fLe:=okI0 λ_ _ _=>rfl
theorem wZ {K:KW}:OkR K (rI0 λi j=>.bl (decide (j < i))) (pE K) fGt:=okI0 λ_ _ _=>rfl
def TOP:Nat:=1000000
theorem yF {n:Nat}(h:n<=TOP):n<=sizeLine:=Nat.le_trans h (by decide)
theorem VL {n:Nat}(h:n<=TOP):n < sizeLine:=Nat.lt_of_le_of_lt h (by decide)
def fIx:D->D->Option D
 |.lst xs,.int i=>atI xs i
 |.tup xs,.int i=>atI xs i
 |.scr ns,.int i=>(atI ns i).map D.int
 |_,_=>none
theorem uS {K:KW}{F:Hp}{ds:List D}{vs:List V}{i:Int}{d:D}(r:Rps K F ds vs)(h:atI ds i=some d):∃v,atI vs i=some v/\Rp K F d v:=by
 unfold atI at h ⊢
 rw[<-r.length]
 cases q:ixN ds.length i with
 |none=>rw[q] at h;cases h
 |some j=>rw[q] at h;exact r.get h
theorem qJ {K:KW}:OkR K (rIx K) (pE K) fIx:=by
 intro F H x y dx dy d Q s rx ry e k
 unfold fIx at e
 split at e
 ·rename_i xs i
  obtain⟨p,vs,rfl,h1,h2⟩:=rx.lst s
  obtain⟨v,h3,h4⟩:=uS h2 e
  exact .inl ⟨p,vs,i,v,rfl,ry.int,.of h1,h3,k _ F H (.refl s) h4⟩
 ·rename_i xs i
  obtain⟨p,vs,rfl,h1,h2⟩:=rx.tup s
  obtain⟨v,h3,h4⟩:=uS h2 e
  exact .inr (.inl ⟨p,vs,i,v,rfl,ry.int,.of h1,h3,k _ F H (.refl s) h4⟩)
 ·rename_i ns i
  obtain⟨p,rfl,h1⟩:=rx.scr s
  cases q:atI ns i with
  |none=>rw[q] at e;cases e
  |some n=>
   rw[q] at e
   cases e
   refine .inl ⟨p,_,i,.int n,rfl,ry.int,h1,?_,k _ F H (.refl s) rfl⟩
   unfold atI at q ⊢
   rw[List.length_map]
   cases q':ixN ns.length i with
   |none=>rw[q'] at q;cases q
   |some j=>
    rw[q'] at q
    have q:ns[j]?=some n:=q
    show (ns.map V.int)[j]?=some (.int n)
    rw[List.getElem?_map,q];rfl
 ·cases e
end
mutual
def toP:D->PyData
 |.non=>.none
 |.bl b=>.bool b
 |.int i=>.int i
 |.str x=>.str x
 |.lst ds=>.list (toPs ds)
 |.tup ds=>.tuple (toPs ds)
 |.scr ns=>.list (ns.map PyData.int)
 |.obj _ _ _=>.dict []
 |.emp=>.dict []
 |.xc _=>.dict []
def toPs:List D->List PyData
 | []=>[]
 |d::ds=>toP d::toPs ds
end
section
variable {X:Cx}{pins:List (Addr×Obj)}{σ:St}{F H:Hp}{s:Shared}
theorem ZA {h:Heap}:∀(ns:List Int) {us:List Value},Vals (ns.map V.int) us->∃as,ReadsAll h us (ns.map PyData.int) as
 | [],_,.nil=>⟨_,.nil⟩
 |n::ns,_,.cons r t=>by
  obtain⟨t',rfl⟩:=r
  obtain⟨as,q⟩:=ZA ns t
  exact⟨_,.cons (.int n t') q⟩
mutual
theorem Rp.reads (I:Inv X pins σ H s)(fh:Same F H):∀(d:D) {v:V} {u:Value},(toP d).canLay0=true->Rp X.kw F d v->RelV v u->∃as,Reads s.heap u (toP d) as
 |.non,_,_,_,h,r=>by subst h;cases r;exact⟨_,.none⟩
 |.bl b,_,_,_,h,r=>by subst h;cases r;exact⟨_,.bool b⟩
 |.int i,_,_,_,h,r=>by subst h;obtain⟨t,rfl⟩:=r;exact⟨_,.int i t⟩
 |.str x,_,_,_,h,r=>by subst h;obtain⟨t,rfl⟩:=r;exact⟨_,.str x t⟩
 |.lst ds,_,_,c,⟨a,vs,e,q,h⟩,r=>by
  subst e;cases r
  obtain⟨z,its,n,rv,e⟩:=(show ObjOk X.prog X.w H s.heap a (.lst vs) from I.hok a _ (fh _ _ q))
  obtain⟨as,t⟩:=Rps.reads I fh ds (show PyData.canLayAll0 (toPs ds)=true from c) h rv
  exact⟨_,.list e rfl rfl (by simpa using t)⟩
 |.tup ds,_,_,c,⟨a,vs,e,q,h⟩,r=>by
  subst e;cases r
  obtain⟨z,its,rv,o,e,hc,n,hd⟩:=(show ObjOk X.prog X.w H s.heap a (.tup vs) from I.hok a _ (fh _ _ q))
  obtain⟨as,t⟩:=Rps.reads I fh ds (show PyData.canLayAll0 (toPs ds)=true from c) h rv
  exact⟨_,.tuple e hc hd (by simpa using t)⟩
 |.scr ns,_,_,c,⟨a,e,q⟩,r=>by
  subst e;cases r
  obtain⟨its,rv,⟨o,n,e,hc,_,hd⟩,_⟩:=I.list (fh.seq q)
  obtain⟨as,t⟩:=ZA (h:=s.heap) ns rv
  exact⟨_,.list e hc hd (by simpa using t)⟩
 |.obj _ _ _,_,_,c,_,_=>by cases c
 |.emp,_,_,c,_,_=>by cases c
 |.xc _,_,_,c,_,_=>by cases c
theorem Rps.reads (I:Inv X pins σ H s)(fh:Same F H):∀(ds:List D) {vs:List V} {us:List Value},PyData.canLayAll0 (toPs ds)=true->Rps X.kw F ds vs->Vals vs us->∃as,ReadsAll s.heap us (toPs ds) as
 | [],_,_,_,h,r=>by subst h;cases r;exact⟨_,.nil⟩
 |d::ds,_,_,c,⟨v,w,e,h,t⟩,r=>by
  subst e
  cases r with
  |cons r rr=>
   have c':((toP d).canLay0&&PyData.canLayAll0 (toPs ds))=true:=c
   obtain⟨c1,c2⟩:=Bool.and_eq_true_iff.mp c'
   obtain⟨as,q⟩:=Rp.reads I fh d c1 h r
   obtain⟨bs,p⟩:=Rps.reads I fh ds c2 t rr
   exact⟨_,.cons q p⟩
end
theorem Rq.reads (I:Inv X pins σ H s)(fh:Same F H){d:D}{v:V}{u:Value}(c:(toP d).canLay0=true)(h:Rq X.kw F H d v)(r:RelV v u):∃as,Reads s.heap u (toP d) as:=by
 rcases h with h | ⟨a,vs,ds,rfl,rfl,e,h⟩
 ·exact h.reads I fh d c r
 ·cases r
  obtain⟨z,its,n,rv,e⟩:=(show ObjOk X.prog X.w H s.heap a (.lst vs) from I.hok a _ e)
  obtain⟨as,t⟩:=Rps.reads I fh ds (show PyData.canLayAll0 (toPs ds)=true from c) h rv
  exact⟨_,.list e rfl rfl (by simpa using t)⟩
end
def eqOk (d:D):Bool:=SeqAt.shaped (toP d)
def eqD (d d':D):Bool:=PyData.eqv (toP d) (toP d')
def rEqD (K:KW)(neg:Bool):R2:=λx y H Q=>∃F d d',Same F H/\Rq K F H d x/\Rq K F H d' y/\eqOk d=true/\eqOk d'=true/\Q (.bl (if neg then !eqD d d' else eqD d d')) H
section
variable {X:Cx}{B:Bs}{e a b c:Expr}{es:List Expr}{pos:Pos}{ga gb:EnvD->Option D}
theorem yi (hu:X.A.units+64 < cLine):OpR X (compareOp .Eq) (rEqD X.kw false):=by
 intro pins s σ H x y v u Q I rx ry ⟨F,d,d',fh,h1,h2,o1,o2,q⟩
 obtain⟨as,ra⟩:=h1.reads I fh (SeqAt.canLay_of_shaped o1) rx
 obtain⟨bs,rb⟩:=h2.reads I fh (SeqAt.canLay_of_shaped o2) ry
 exact SeqAt.compareEq_shaped ra rb o1 o2 hu ⟨.bl (eqD d d'),H,I,rfl,q⟩
theorem vm (hu:X.A.units+64 < cLine):OpR X (compareOp .NotEq) (rEqD X.kw true):=by
 intro pins s σ H x y v u Q I rx ry ⟨F,d,d',fh,h1,h2,o1,o2,q⟩
 obtain⟨as,ra⟩:=h1.reads I fh (SeqAt.canLay_of_shaped o1) rx
 obtain⟨bs,rb⟩:=h2.reads I fh (SeqAt.canLay_of_shaped o2) ry
 exact SeqAt.compareNe_shaped ra rb o1 o2 hu ⟨.bl (!eqD d d'),H,I,rfl,q⟩
def fEq (neg:Bool):D->D->Option D:=λx y=>if eqOk x&&eqOk y then some (.bl (if neg then !eqD x y else eqD x y)) else none
theorem zR {K:KW}{neg:Bool}:OkR K (rEqD K neg) (pE K) (fEq neg):=by
 intro F H x y dx dy d Q s rx ry e k
 unfold fEq at e
 split at e
 ·rename_i hc
  cases e
  obtain⟨h1,h2⟩:=Bool.and_eq_true_iff.mp hc
  exact⟨F,dx,dy,s,rx,ry,h1,h2,k _ F H (.refl s) rfl⟩
 ·cases e
def isNon:D->Bool
 |.non=>true
 |_=>false
theorem KI {K:KW}{F H:Hp}{d:D}{v:V}(r:Rq K F H d v):decide (v=.non)=isNon d:=by
 rcases r with r | ⟨a,vs,ds,rfl,rfl,_⟩
 ·cases d with
  |non=>cases r;rfl
  |bl b=>cases r;rfl
  |int b=>cases r;rfl
  |str b=>cases r;rfl
  |lst ds=>obtain⟨a,vs,rfl,_⟩:=r;rfl
  |tup ds=>obtain⟨a,vs,rfl,_⟩:=r;rfl
  |scr ds=>obtain⟨a,rfl,_⟩:=r;rfl
  |obj C f ds=>obtain⟨a,dx,vs,rfl,_⟩:=r;rfl
  |emp=>obtain⟨a,rfl,_⟩:=r;rfl
  |xc x=>obtain⟨a,rfl⟩:=RXt.ref r;rfl
 ·rfl
def fIs (neg:Bool):D->D->Option D
 |d,.non=>some (.bl (if neg then !isNon d else isNon d))
 |_,_=>none
theorem QW {K:KW}:OkR K (λx y H Q=>y=.non/\Q (.bl (!decide (x=.non))) H) (pE K) (fIs true):=by
 intro F H x y dx dy d Q s rx ry e k
 unfold fIs at e
 split at e
 ·cases e
  refine⟨ry.non,?_⟩
  rw[KI rx]
  exact k _ F H (.refl s) rfl
 ·cases e
def asB:D->Option Bool
 |.bl b=>some b
 |_=>none
def truD:D->Option Bool
 |.non=>some false
 |.bl b=>some b
 |.int i=>some (i != 0)
 |.str x=>if x.length<=TOP then some ((x.length:Int) != 0) else none
 |.lst ds=>some (!ds.isEmpty)
 |.tup ds=>some (!ds.isEmpty)
 |.scr ns=>some (!ns.isEmpty)
 |.obj _ _ _=>none
 |.emp=>none
 |.xc _=>none
theorem uG {K:KW}{F:Hp}{ds:List D}{vs:List V}(r:Rps K F ds vs):ds.isEmpty=vs.isEmpty:=by
 have:=r.length
 cases ds<;>cases vs<;>simp_all
theorem WD {K:KW}{F H:Hp}(s:Same F H){d:D}{v:V}{b:Bool}(r:Rq K F H d v)(h:truD d=some b):TruV K v H b:=by
 cases d with
 |non=>cases r.non;cases h;rfl
 |bl x=>cases r.bl;cases h;rfl
 |int x=>cases r.int;cases h;rfl
 |str x=>
  cases r.str
  have h:(if x.length<=TOP then some ((x.length:Int) != 0) else none)=some b:=h
  split at h
  ·rename_i hc;cases h;exact⟨yF hc,rfl⟩
  ·cases h
 |lst ds=>obtain⟨a,vs,rfl,q,t⟩:=r.lst s;cases h;exact .inl ⟨vs,.of q,by rw[uG t]⟩
 |tup ds=>obtain⟨a,vs,rfl,q,t⟩:=r.tup s;cases h;exact .inr (.inl ⟨vs,.of q,by rw[uG t]⟩)
 |scr ns=>obtain⟨a,rfl,q⟩:=r.scr s;cases h;exact .inl ⟨_,q,by simp⟩
 |obj C f ds=>cases h
 |emp=>cases h
 |xc x=>cases h
def gt (g:EnvD->Option D):EnvD->Option Bool:=λρ=>(g ρ).bind truD
def gb' (g:EnvD->Option D):EnvD->Option Bool:=λρ=>(g ρ).bind asB
theorem z7 {g:EnvD->Option D}(ha:DR X B a g)(he:∀whole,isTrue a X.env whole=(do let v <-whole;standAt a.pos;holding [v] (truthy v))):DT X B a (gt g) :=
 vF (JA ha he) λσ H Q zz=>zz.el λF ρ b r hg k=>by
  unfold gt at hg
  cases q:g ρ with
  |none=>rw[q] at hg;cases hg
  |some d=>
   rw[q] at hg
   exact⟨F,ρ,d,r,q,λv F' H' e p=>⟨b,WD e.fh p hg,k F' H' e⟩⟩
theorem zO {op:CmpOp}{r:R2}{f:D->D->Option D}(ho:OpR X (compareOp op) r)(hr:OkR X.kw r (pE X.kw) f)(ha:DR X B a ga)(hb:DR X B b gb)(hm:behindInMarks op b=false):DT X B (.Compare a [op] [b] pos) (gb' (g2 f ga gb)) :=
 vF (JP ho ha hb hm) λσ H Q zz=>zz.el λF ρ c rr hg k=>by
  unfold gb' at hg
  cases q:g2 f ga gb ρ with
  |none=>rw[q] at hg;cases hg
  |some d=>
   rw[q] at hg
   refine op2 va hr ⟨F,ρ,d,rr,q,λv F' H' e p=>?_⟩
   cases d with
   |bl y=>cases hg;exact⟨c,p,k F' H' e⟩
   |_=>cases hg
def gAnd (ga gb:EnvD->Option Bool):EnvD->Option Bool:=λρ=>(ga ρ).bind λx=>if x then gb ρ else some false
def gOr (ga gb:EnvD->Option Bool):EnvD->Option Bool:=λρ=>(ga ρ).bind λx=>if x then some true else gb ρ
def gNot (ga:EnvD->Option Bool):EnvD->Option Bool:=λρ=>(ga ρ).map λx=>!x
variable {ta tb:EnvD->Option Bool}{rest:List Expr}
theorem kW (ha:DT X B a ta):DW X B (.BoolOp .And [a] pos) ta:=YG ha
theorem yg (ha:DT X B a ta):DW X B (.BoolOp .Or [a] pos) ta:=Jm ha
theorem Yf (ha:DT X B a ta)(hb:DW X B (.BoolOp .And (b::rest) pos) tb):DW X B (.BoolOp .And (a::b::rest) pos) (gAnd ta tb) :=
 ZJ (YD ha hb) λσ H Q zz=>zz.el λF ρ c r hg k=>by
  unfold gAnd at hg
  cases q:ta ρ with
  |none=>rw[q] at hg;cases hg
  |some x=>
   rw[q] at hg
   refine⟨F,ρ,x,r,q,λF1 H1 e1=>?_⟩
   cases x with
   |true=>exact iteT ⟨F1,ρ,c,r.ext e1,hg,λF2 H2 e2=>k F2 H2 (e1.trans e2)⟩
   |false=>cases hg;exact iteF (k F1 H1 e1)
theorem zY (ha:DT X B a ta)(hb:DW X B (.BoolOp .Or (b::rest) pos) tb):DW X B (.BoolOp .Or (a::b::rest) pos) (gOr ta tb) :=
 ZJ (Vj ha hb) λσ H Q zz=>zz.el λF ρ c r hg k=>by
  unfold gOr at hg
  cases q:ta ρ with
  |none=>rw[q] at hg;cases hg
  |some x=>
   rw[q] at hg
   refine⟨F,ρ,x,r,q,λF1 H1 e1=>?_⟩
   cases x with
   |true=>cases hg;exact iteT (k F1 H1 e1)
   |false=>exact iteF ⟨F1,ρ,c,r.ext e1,hg,λF2 H2 e2=>k F2 H2 (e1.trans e2)⟩
theorem zZ (h:DW X B a ta):DT X B a ta:=PW.pt h
theorem zA (ha:DT X B a ta):DT X B (.UnaryOp .Not a pos) (gNot ta) :=
 vF (Jc ha) λσ H Q zz=>zz.el λF ρ c r hg k=>by
  unfold gNot at hg
  cases q:ta ρ with
  |none=>rw[q] at hg;cases hg
  |some x=>rw[q] at hg;cases hg;exact⟨F,ρ,x,r,q,λF1 H1 e1=>k F1 H1 e1⟩
def gAndV (ga gb:EnvD->Option D):EnvD->Option D:=λρ=>((ga ρ).bind asB).bind λx=>if x then gb ρ else some (.bl false)
def gNotV (ga:EnvD->Option D):EnvD->Option D:=λρ=>((ga ρ).bind asB).map λx=>.bl (!x)
theorem jK {d:D}{b:Bool}(h:asB d=some b):d=.bl b:=by cases d<;>cases h;rfl
theorem bindB {g:EnvD->Option D}{ρ:EnvD}{α:Type}{f:Bool->Option α}{y:α}(h:((g ρ).bind asB).bind f=some y):∃b,g ρ=some (.bl b)/\f b=some y:=by
 cases q:g ρ with
 |none=>rw[q] at h;cases h
 |some d=>
  rw[q] at h
  cases q2:asB d with
  |none=>rw[show (some d).bind asB=asB d from rfl,q2] at h;cases h
  |some b=>rw[show (some d).bind asB=asB d from rfl,q2] at h;exact⟨b,by rw[jK q2],h⟩
theorem yT {op}(h:DE X B a ga):DE X B (.BoolOp op [a] pos) ga:=W8 h
theorem yB (ha:DE X B a ga)(hb:DE X B (.BoolOp .And (b::rest) pos) gb):DE X B (.BoolOp .And (a::b::rest) pos) (gAndV ga gb) :=
 zr (YM ha hb) λσ H Q zz=>zz.el λF ρ d r hg k=>by
  obtain⟨x,q,hg⟩:=bindB hg
  refine⟨F,ρ,_,r,q,λv F1 H1 e1 p1=>⟨x,p1,?_⟩⟩
  cases x with
  |true=>exact iteT ⟨F1,ρ,d,r.ext e1,hg,λv F2 H2 e2 p2=>k v F2 H2 (e1.trans e2) p2⟩
  |false=>cases hg;exact iteF (k _ F1 H1 e1 rfl)
theorem Qr (ha:DE X B a ga):DE X B (.UnaryOp .Not a pos) (gNotV ga) :=
 zr (K2 ha) λσ H Q zz=>zz.el λF ρ d r hg k=>by
  unfold gNotV at hg
  rw[Option.map_eq_bind] at hg
  obtain⟨x,q,hg⟩:=bindB hg
  cases hg
  exact⟨F,ρ,_,r,q,λv F1 H1 e1 p1=>⟨x,p1,k _ F1 H1 e1 rfl⟩⟩
def gIf (t:EnvD->Option Bool)(ga gb:EnvD->Option D):EnvD->Option D:=λρ=>(t ρ).bind λx=>if x then ga ρ else gb ρ
theorem Zj (ht:DT X B c ta)(ha:DE X B a ga)(hb:DE X B b gb):DE X B (.IfExp c a b pos) (gIf ta ga gb) :=
 zr (W5 ht ha hb) λσ H Q zz=>zz.el λF ρ d r hg k=>by
  unfold gIf at hg
  cases q:ta ρ with
  |none=>rw[q] at hg;cases hg
  |some x=>
   rw[q] at hg
   refine⟨F,ρ,x,r,q,λF1 H1 e1=>?_⟩
   cases x with
   |true=>exact iteT ⟨F1,ρ,d,r.ext e1,hg,λv F2 H2 e2 p2=>k v F2 H2 (e1.trans e2) p2⟩
   |false=>exact iteF ⟨F1,ρ,d,r.ext e1,hg,λv F2 H2 e2 p2=>k v F2 H2 (e1.trans e2) p2⟩
end
section
variable {X:Cx}{B:Bs}{e a b c:Expr}{es:List Expr}{pos:Pos}{ga gb gc':EnvD->Option D}
def g3 (f f':D->D->Option D)(ga gb gc:EnvD->Option D):EnvD->Option D:=λρ=>
 (ga ρ).bind λx=>(gb ρ).bind λy=>((f x y).bind asB).bind λk=>if k then (gc ρ).bind λz=>f' y z else some (.bl false)
theorem uz {r r':R2}{f f':D->D->Option D}(hr:OkR X.kw r (pE X.kw) f)(hr':OkR X.kw r' (pE X.kw) f'){σ:St}{H:Hp}{Q:VK}(h:lG X.kw B (pE X.kw) (g3 f f' ga gb gc') σ H Q) :
  tChain r r' (lG X.kw B (pR X.kw) ga) (lG X.kw B (pR X.kw) gb) (lG X.kw B (pR X.kw) gc') σ H Q:=by
 refine Lq.el h λF ρ d rr hg k=>?_
 unfold g3 at hg
 cases qa:ga ρ with
 |none=>rw[qa] at hg;cases hg
 |some dx=>
  cases qb:gb ρ with
  |none=>rw[qa,qb] at hg;cases hg
  |some dy=>
   rw[qa,qb] at hg
   have hg:((f dx dy).bind asB).bind (λk=>if k then (gc' ρ).bind λz=>f' dy z else some (.bl false))=some d:=hg
   cases qf:f dx dy with
   |none=>rw[qf] at hg;cases hg
   |some z=>
    rw[qf] at hg
    cases qz:asB z with
    |none=>rw[show (some z).bind asB=asB z from rfl,qz] at hg;cases hg
    |some kk=>
     rw[show (some z).bind asB=asB z from rfl,qz] at hg
     rw[jK qz] at qf
     refine⟨F,ρ,dx,rr,qa,λx F1 H1 e1 p1=>⟨F1,ρ,dy,rr.ext e1,qb,λy F2 H2 e2 p2=>?_⟩⟩
     refine hr F2 H2 x y dx dy _ _ e2.fh (p1.mono e2.ff e2.hh) p2 qf λv F3 H3 e3 p3=>⟨kk,p3,?_⟩
     have hg:(if kk=true then (gc' ρ).bind λz=>f' dy z else some (.bl false))=some d:=hg
     cases kk with
     |false=>rw[if_neg (by decide)] at hg;cases hg;exact iteF (k _ F3 H3 (e1.trans (e2.trans e3)) rfl)
     |true=>
      rw[if_pos rfl] at hg
      refine iteT ?_
      cases qc:gc' ρ with
      |none=>rw[qc] at hg;cases hg
      |some dz=>
       rw[qc] at hg
       refine⟨F3,ρ,dz,rr.ext (e1.trans (e2.trans e3)),qc,λw F4 H4 e4 p4=>?_⟩
       exact hr' F4 H4 y w dy dz d Q e4.fh ((p2.mono e3.ff e3.hh).mono e4.ff e4.hh) p4 hg λv F5 H5 e5 p5=>k v F5 H5 (e1.trans (e2.trans (e3.trans (e4.trans e5)))) p5
theorem Yp {op op':CmpOp}{r r':R2}{f f':D->D->Option D}(ho:OpR X (compareOp op) r)(ho':OpR X (compareOp op') r')(hr:OkR X.kw r (pE X.kw) f)(hr':OkR X.kw r' (pE X.kw) f')(ha:DR X B a ga)(hb:DR X B b gb)(hc:DR X B c gc')
  (hm:lastMarks [op,op'] [b,c]=false:=by with_unfolding_all rfl):DE X B (.Compare a [op,op'] [b,c] pos) (g3 f f' ga gb gc') :=
 zr (QQ ho ho' ha hb hc hm) λσ H Q h=>uz hr hr' h
theorem vT {op op':CmpOp}{r r':R2}{f f':D->D->Option D}(ho:OpR X (compareOp op) r)(ho':OpR X (compareOp op') r')(hr:OkR X.kw r (pE X.kw) f)(hr':OkR X.kw r' (pE X.kw) f')(ha:DR X B a ga)(hb:DR X B b gb)(hc:DR X B c gc')
  (hm:lastMarks [op,op'] [b,c]=false:=by with_unfolding_all rfl):DT X B (.Compare a [op,op'] [b,c] pos) (gb' (g3 f f' ga gb gc')) :=
 vF (Kn ho ho' ha hb hc hm) λσ H Q zz=>zz.el λF ρ c rr hg k=>by
  unfold gb' at hg
  cases q:g3 f f' ga gb gc' ρ with
  |none=>rw[q] at hg;cases hg
  |some d=>
   rw[q] at hg
   rw[jK (show asB d=some c from hg)] at q
   exact uz hr hr' ⟨F,ρ,_,rr,q,λv F' H' e p=>⟨c,p,k F' H' e⟩⟩
def gNil:EnvD->Option (List D):=λ_=>some []
def gCons' (g:EnvD->Option D)(gs:EnvD->Option (List D)):EnvD->Option (List D):=λρ=>(g ρ).bind λd=>(gs ρ).bind λds=>some (d::ds)
variable {g:EnvD->Option D}{gs:EnvD->Option (List D)}
theorem zt:DAs X B [] gNil:=xl zQ λσ H Q zz=>zz.el λF ρ ds r hg k=>by cases hg;exact k [] F H (.refl r.fh) .nil
theorem zF:DRs X B [] gNil:=xl zQ λσ H Q zz=>zz.el λF ρ ds r hg k=>by cases hg;exact k [] F H (.refl r.fh) .nil
theorem bind2 {α β γ:Type}{o:Option α}{p:Option β}{f:α->β->Option γ}{z:γ}(h:(o.bind λx=>p.bind λy=>f x y)=some z):∃x y,o=some x/\p=some y/\f x y=some z:=by
 cases o with
 |none=>cases h
 |some x=>
  cases p with
  |none=>cases h
  |some y=>exact⟨x,y,rfl,rfl,h⟩
theorem zd (ha:DE X B e g)(hr:DAs X B es gs)(hs:starEach (e::es) X.env=(false,eval e X.env)::starEach es X.env:=by rfl):DAs X B (e::es) (gCons' g gs) :=
 xl (z5 ha hr hs) λσ H Q zz=>zz.el λF ρ ds r hg k=>by
  obtain⟨d,dr,q1,q2,q3⟩:=bind2 hg
  cases q3
  exact⟨F,ρ,d,r,q1,λv F1 H1 e1 p1=>⟨F1,ρ,dr,r.ext e1,q2,λvs F2 H2 e2 p2=>k _ F2 H2 (e1.trans e2) (.cons (Rp.mono e2.ff p1) p2)⟩⟩
theorem zE (ha:DR X B e g)(hr:DRs X B es gs)(hs:starEach (e::es) X.env=(false,eval e X.env)::starEach es X.env:=by rfl):DRs X B (e::es) (gCons' g gs) :=
 xl (z5 ha hr hs) λσ H Q zz=>zz.el λF ρ ds r hg k=>by
  obtain⟨d,dr,q1,q2,q3⟩:=bind2 hg
  cases q3
  exact⟨F,ρ,d,r,q1,λv F1 H1 e1 p1=>⟨F1,ρ,dr,r.ext e1,q2,λvs F2 H2 e2 p2=>k _ F2 H2 (e1.trans e2) (.cons (p1.mono e2.ff e2.hh) p2)⟩⟩
theorem vp {K:KW}{F:Hp}:∀ {ds:List D} {vs:List V},Paired (λd v=>Rp K F d v) ds vs->Rps K F ds vs
 |_,_,.nil=>rfl
 |_,_,.cons r t=>⟨_,_,rfl,r,vp t⟩
def gTup' (gs:EnvD->Option (List D)):EnvD->Option D:=λρ=>(gs ρ).bind λds=>if ds.length<=TOP then some (.tup ds) else none
def gLst (gs:EnvD->Option (List D)):EnvD->Option (List D):=λρ=>(gs ρ).bind λds=>if ds.length<=TOP then some ds else none
theorem zS {x1}(h:DAs X B es gs):DE X B (.Tuple es x1 pos) (gTup' gs) :=
 zr (Wt h) λσ H Q zz=>zz.el λF ρ d r hg k=>by
  unfold gTup' at hg
  cases q:gs ρ with
  |none=>rw[q] at hg;cases hg
  |some ds=>
   rw[q] at hg
   have hg:(if ds.length<=TOP then some (D.tup ds) else none)=some d:=hg
   split at hg
   ·rename_i hc
    cases hg
    refine⟨F,ρ,ds,r,q,λvs F1 H1 e1 p1=>⟨yF (by rw[<-(vp p1).length];exact hc),λp hp=>?_⟩⟩
    exact k _ (upd F1 p (.tup vs)) _ (e1.trans (.newF e1.fh hp)) ⟨p,vs,rfl,zm,(vp p1).mono (ya (e1.fh.free hp))⟩
   ·cases hg
theorem zM (h:DAs X B es gs):DA X B (.List es pos) (gLst gs) :=
 zr (Kd h) λσ H Q zz=>zz.el λF ρ d r hg k=>by
  unfold gLst at hg
  cases q:gs ρ with
  |none=>rw[q] at hg;cases hg
  |some ds=>
   rw[q] at hg
   have hg:(if ds.length<=TOP then some ds else none)=some d:=hg
   split at hg
   ·rename_i hc
    cases hg
    refine⟨F,ρ,_,r,q,λvs F1 H1 e1 p1=>⟨yF (by rw[<-(vp p1).length];exact hc),λp hp=>?_⟩⟩
    exact k _ F1 _ (e1.trans (.new e1.fh hp)) ⟨p,vs,rfl,e1.hh.free hp,zm,e1.fh.free hp,vp p1⟩
   ·cases hg
def lO (K:KW)(B:Bs)(g:EnvD->Option (Option Int)):TO:=λσ H Q=>Lq K B g σ H λF ρ i=>∀F' H',Ext F H F' H'->Q i H'
def DO (X:Cx)(B:Bs)(e:Option Expr)(g:EnvD->Option (Option Int)):Prop:=PO X e (lO X.kw B g)
theorem kh {e:Option Expr}{t t':TO}(h:PO X e t)(k:∀σ H Q,t' σ H Q->t σ H Q):PO X e t':=λpins s σ H Q I q=>h pins s σ H Q I (k σ H Q q)
def gNone:EnvD->Option (Option Int):=λ_=>some none
theorem Yv:DO X B none gNone:=kh Kv λσ H Q zz=>zz.el λF ρ i r hg k=>by cases hg;exact k F H (.refl r.fh)
def asI:D->Option Int
 |.int i=>some i
 |_=>none
theorem kZ {d:D}{i:Int}(h:asI d=some i):d=.int i:=by cases d<;>cases h;rfl
def gSome (g:EnvD->Option D):EnvD->Option (Option Int):=λρ=>(g ρ).bind λd=>(asI d).map some
theorem uH (h:DR X B e g):DO X B (some e) (gSome g):=kh (QN h) λσ H Q zz=>zz.el λF ρ i r hg k=>by
 unfold gSome at hg
 cases q:g ρ with
 |none=>rw[q] at hg;cases hg
 |some d=>
  rw[q] at hg
  cases q2:asI d with
  |none=>rw[show (some d).bind (λd=>(asI d).map some)=(asI d).map some from rfl,q2] at hg;cases hg
  |some j=>
   rw[show (some d).bind (λd=>(asI d).map some)=(asI d).map some from rfl,q2] at hg
   cases hg
   rw[kZ q2] at q
   exact⟨F,ρ,_,r,q,λv F1 H1 e1 p1=>⟨j,p1.int,k F1 H1 e1⟩⟩
def cutD {α:Type}(xs:List α)(lo hi:Option Int):List α:=(xs.drop (HT.sIx xs.length 0 lo)).take (HT.sIx xs.length xs.length hi - HT.sIx xs.length 0 lo)
def gSl (g:EnvD->Option D)(gl gh:EnvD->Option (Option Int)):EnvD->Option (List D):=λρ=>(g ρ).bind λd=>(gl ρ).bind λl=>(gh ρ).bind λh=>match d with
 |.lst ds=>some (cutD ds l h)
 |_=>none
theorem Zb {lo hi:Option Expr}{gl gh:EnvD->Option (Option Int)}{p2:Pos}(he:DR X B e g)(hl:DO X B lo gl)(hh:DO X B hi gh):DA X B (.Subscript e (.Slice lo hi none p2) pos) (gSl g gl gh) :=
 zr (YX Kc he hl hh) λσ H Q zz=>zz.el λF ρ d r hg k=>by
  unfold gSl at hg
  cases q:g ρ with
  |none=>rw[q] at hg;cases hg
  |some x=>
   cases ql:gl ρ with
   |none=>rw[q,ql] at hg;cases hg
   |some l=>
    cases qh:gh ρ with
    |none=>rw[q,ql,qh] at hg;cases hg
    |some h=>
     rw[q,ql,qh] at hg
     cases x with
     |lst ds=>
      cases hg
      refine⟨F,ρ,_,r,q,λv F1 H1 e1 p1=>⟨F1,ρ,l,r.ext e1,ql,λF2 H2 e2=>⟨F2,ρ,h,r.ext (e1.trans e2),qh,λF3 H3 e3=>?_⟩⟩⟩
      have e:=e1.trans (e2.trans e3)
      obtain⟨a,vs,rfl,h1,h2⟩:=((p1.mono e2.ff e2.hh).mono e3.ff e3.hh).lst e3.fh
      refine⟨a,vs,rfl,.of h1,λp hp=>k _ F3 _ (e.trans (.new e.fh hp)) ⟨p,_,rfl,e.hh.free hp,zm,e.fh.free hp,?_⟩⟩
      unfold cutD cutV
      rw[<-h2.length]
      exact (h2.drop _).take _
     |_=>cases hg
def CallOk {γ:Type}(K:KW)(r:List V->Hp->VK->Prop)(pc:Post γ)(f:List D->Option γ):Prop :=
 ∀F H vs ds d Q,Same F H->Paired (λd v=>Rq K F H d v) ds vs->f ds=some d->(∀v F' H',Ext F H F' H'->pc F H F' H' d v->Q v H')->r vs H Q
def gB {γ:Type}(f:List D->Option γ)(gs:EnvD->Option (List D)):EnvD->Option γ:=λρ=>(gs ρ).bind f
theorem callB {γ:Type}{r:List V->Hp->VK->Prop}{pc:Post γ}{f:List D->Option γ}(hb:Back pc)(hr:CallOk X.kw r pc f){σ:St}{H:Hp}{Q:VK}(h:lG X.kw B pc (gB f gs) σ H Q):tCB r (lAs X.kw B (pR X.kw) gs) σ H Q:=by
 refine Lq.el h λF ρ d rr hg k=>?_
 unfold gB at hg
 cases q:gs ρ with
 |none=>rw[q] at hg;cases hg
 |some ds=>
  rw[q] at hg
  exact⟨F,ρ,ds,rr,q,λvs F1 H1 e1 p1=>hr F1 H1 vs ds d Q e1.fh p1 hg λv F' H' e p=>k v F' H' (e1.trans e) (hb _ _ _ _ _ _ _ _ e1 p)⟩
variable {x:Str}{p:Pos}{id T:String}
theorem uY {r:List V->Hp->VK->Prop}{f:List D->Option D}(hc:CallR X (.builtin id) r)(hr:CallOk X.kw r (pE X.kw) f)(hg:Gl X x)(hm:X.mg x=none)(hv:bootBuiltins x=some (.builtin id))(ha:DRs X B (e::es) gs)(hn:x ≠ "__name__" := by decide) (hdb:(x==("__debug__" : Str))=false:=by decide)
  (he:starEach (e::es) X.env=(false,eval e X.env)::starEach es X.env:=by rfl) (hpl:(backTo pos (starEach es X.env)).any (·.1)=false:=by rfl):DE X B (.Call (.Name x p) (e::es) [] pos) (gB f gs) :=
 zr (jj hc hg hm hv ha hn hdb he hpl) λσ H Q h=>callB va hr h
theorem Jh {r:List V->Hp->VK->Prop}{f:List D->Option (List D)}(hc:CallR X (.type T) r)(hr:CallOk X.kw r (pA X.kw) f)(hg:Gl X x)(hm:X.mg x=none)(hv:bootBuiltins x=some (.type T))(ha:DRs X B (e::es) gs)(hn:x ≠ "__name__" := by decide) (hdb:(x==("__debug__" : Str))=false:=by decide)
  (he:starEach (e::es) X.env=(false,eval e X.env)::starEach es X.env:=by rfl) (hpl:(backTo pos (starEach es X.env)).any (·.1)=false:=by rfl):DA X B (.Call (.Name x p) (e::es) [] pos) (gB f gs) :=
 zr (Yc hc hg hm hv ha hn hdb he hpl) λσ H Q h=>callB uD hr h
theorem V9 {r:List V->Hp->VK->Prop}{f:List D->Option D}(hc:CallR X (.type T) r)(hr:CallOk X.kw r (pE X.kw) f)(hg:Gl X x)(hm:X.mg x=none)(hv:bootBuiltins x=some (.type T))(ha:DRs X B (e::es) gs)(hn:x ≠ "__name__" := by decide) (hdb:(x==("__debug__" : Str))=false:=by decide)
  (he:starEach (e::es) X.env=(false,eval e X.env)::starEach es X.env:=by rfl) (hpl:(backTo pos (starEach es X.env)).any (·.1)=false:=by rfl):DE X B (.Call (.Name x p) (e::es) [] pos) (gB f gs) :=
 zr (Yc hc hg hm hv ha hn hdb he hpl) λσ H Q h=>callB va hr h
def fLen:List D->Option D
 | [.lst ds]=>some (.int ds.length)
 | [.tup ds]=>some (.int ds.length)
 | [.scr ns]=>some (.int ns.length)
 | [.str x]=>if x.length<=TOP then some (.int x.length) else none
 |_=>none
theorem pair1 {R:D->V->Prop}{d:D}{vs:List V}(h:Paired R [d] vs):∃v,vs=[v]/\R d v:=by
 cases h with
 |cons r t=>cases t;exact⟨_,rfl,r⟩
theorem Qo {K:KW}:CallOk K (λxs H Q=>∃x n,xs=[x]/\LenV K x H n/\Q (.int n) H) (pE K) fLen:=by
 intro F H vs ds d Q s hp e k
 unfold fLen at e
 split at e
 ·cases e
  obtain⟨v,rfl,r⟩:=pair1 hp
  obtain⟨a,ws,rfl,h1,h2⟩:=r.lst s
  exact⟨_,_,rfl,.inl ⟨ws,.of h1,h2.length⟩,k _ F H (.refl s) rfl⟩
 ·cases e
  obtain⟨v,rfl,r⟩:=pair1 hp
  obtain⟨a,ws,rfl,h1,h2⟩:=r.tup s
  exact⟨_,_,rfl,.inr ⟨ws,.of h1,h2.length⟩,k _ F H (.refl s) rfl⟩
 ·cases e
  obtain⟨v,rfl,r⟩:=pair1 hp
  obtain⟨a,rfl,h1⟩:=r.scr s
  exact⟨_,_,rfl,.inl ⟨_,h1,by simp⟩,k _ F H (.refl s) rfl⟩
 ·split at e
  ·rename_i hc
   cases e
   obtain⟨v,rfl,r⟩:=pair1 hp
   cases r.str
   exact⟨_,_,rfl,⟨yF hc,rfl⟩,k _ F H (.refl s) rfl⟩
  ·cases e
 ·cases e
end
section
variable {X:Cx}{B:Bs}{e a b c:Expr}{es:List Expr}{pos p p2:Pos}{g ga gb:EnvD->Option D}{gs:EnvD->Option (List D)}
def tyD:D->Option String
 |.non=>some "NoneType"
 |.bl _=>some "bool"
 |.int _=>some "int"
 |.str _=>some "str"
 |.lst _=>some "list"
 |.tup _=>some "tuple"
 |.scr _=>none
 |.obj _ _ _=>none
 |.emp=>some "dict"
 |.xc (.dic _ _)=>some "dict"
 |.xc (.exc _ _)=>none
def subT (t T:String):Option Bool:=if t=T then some true else if t = "bool" /\ T = "int" then some true else if (t∈["NoneType","bool","int","str","list","tuple","dict"])/\(T∈["bool","int","str","list","tuple","dict"]) then some false else none
theorem Kh {K:KW}{F H:Hp}(s:Same F H){d:D}{v:V}{t:String}(r:Rq K F H d v)(h:tyD d=some t):TyOf K H v (.type t):=by
 cases d with
 |non=>cases r.non;cases h;exact .non
 |bl x=>cases r.bl;cases h;exact .bl x
 |int x=>cases r.int;cases h;exact .int x
 |str x=>cases r.str;cases h;exact .str x
 |lst ds=>obtain⟨a,vs,rfl,q,_⟩:=r.lst s;cases h;exact .lst q
 |tup ds=>obtain⟨a,vs,rfl,q,_⟩:=r.tup s;cases h;exact .tup q
 |scr ns=>cases h
 |obj C f ds=>cases h
 |emp=>obtain⟨a,rfl,q⟩:=r.one λ_ z=>(nomatch z);cases h;exact .dK (s _ _ q)
 |xc x=>
  cases x with
  |dic k i=>obtain⟨a,rfl,q⟩:=r.one λ_ z=>(nomatch z);cases h;exact .dK (s _ _ q)
  |exc C fs=>cases h
def gIs (T:String)(g:EnvD->Option D):EnvD->Option D:=λρ=>(g ρ).bind λd=>(tyD d).bind λt=>(subT t T).map D.bl
theorem Qy {T:String}(hk:∀t b,subT t T=some b->kitOne X.kw (.type t) (.type T)=some b) :
  CallR X (.builtin "isinstance") (λxs H Q=>∃x t b,xs=[x,.ty T]/\TyOf X.kw H x (.type t)/\subT t T=some b/\Q (.bl b) H):=by
 intro pins s σ H vs us Q I r h
 obtain⟨x,t,b,rfl,ty,hb,q⟩:=h
 obtain⟨u,w,rfl,ru,rw'⟩:=vals2 r
 cases rw'
 exact JW I ru ty (hk t b hb) λtk=>⟨.bl b,H,I.tok tk,rfl,q⟩
theorem yU {T:String}{x:Str}(hk:∀t b,subT t T=some b->kitOne X.kw (.type t) (.type T)=some b)(hg:Gl X "isinstance") (hm:X.mg "isinstance" = none) (hgT:Gl X x) (hmT:X.mg x=none) (hvT:bootBuiltins x=some (.type T)) (ha:DR X B a g)
  (hnT:x ≠ "__name__" := by decide) (hdT:(x==("__debug__" : Str))=false:=by decide)
  (he:starEach [a,.Name x p2] X.env=(false,eval a X.env)::starEach [.Name x p2] X.env:=by rfl) (he2:starEach [.Name x p2] X.env=(false,eval (.Name x p2) X.env)::starEach [] X.env:=by rfl) (hpl:(backTo pos (starEach [.Name x p2] X.env)).any (·.1)=false:=by rfl) :
  DE X B (.Call (.Name "isinstance" p) [a,.Name x p2] [] pos) (gIs T g) :=
 zr (jj (Qy (T:=T) hk) hg hm (by decide +kernel) (z5 ha (z5 (kK hgT hmT hvT (v:=.ty T) rfl hnT hdT) zQ he2) he) (by decide) (by decide) he hpl) λσ H Q zz=>zz.el λF ρ d r hg k=>by
  unfold gIs at hg
  cases q:g ρ with
  |none=>rw[q] at hg;cases hg
  |some x=>
   rw[q] at hg
   have hg:((tyD x).bind λt=>(subT t T).map D.bl)=some d:=hg
   cases q2:tyD x with
   |none=>rw[q2] at hg;cases hg
   |some t=>
    rw[q2] at hg
    have hg:(subT t T).map D.bl=some d:=hg
    cases q3:subT t T with
    |none=>rw[q3] at hg;cases hg
    |some y=>
     rw[q3] at hg
     cases hg
     exact⟨F,ρ,x,r,q,λv F1 H1 e1 p1=>⟨v,t,y,rfl,Kh e1.fh p1 q2,q3,k _ F1 H1 e1 rfl⟩⟩
theorem Ja (hc:X.calm=true):CallR X (.builtin "all") (λxs H Q=>∃(a:Addr) (bs:List Bool),xs=[.ref a]/\SqL X.kw H a (bs.map V.bl)/\Q (.bl (bs.all λx=>x)) H):=by
 intro pins s σ H vs us Q I r h
 obtain⟨a,bs,rfl,hq,q⟩:=h
 obtain⟨u,rfl,ru⟩:=vals1 r
 cases ru
 obtain⟨its,rv,pl,hz⟩:=I.list hq
 have hlt:a < s.heap.objs.size:=let ⟨o,n,e,_⟩:=pl;Heap.lt_size e
 have hl:bs.length=its.length:=by have:=rv.length;simpa using this
 refine call_all_walk (wpAny_pyIter_list pl.isList ⟨s.heap.objs.size,_,_,_,_,_,λi=>bs.getD i false,rfl,Walks.list (A:=X.A.in1) (I.ok.hd hc) s.heap.objs.size a (Nat.ne_of_lt hlt) its.toArray,⟨⟨_,Heap.get?_push_size _ rfl,rfl,rfl⟩,?_⟩,?_,λh' tk hk=>?_⟩)
 ·obtain⟨o,n,e,c1,c2,c3⟩:=pl
  exact⟨o,Heap.get?_push_of_some _ e,c1,n,c3⟩
 ·intro i v s' Q' E' hv hq'
  have hv:its[i]?=some v:=by simpa using hv
  have hi:i < bs.length:=by rw[hl];exact (List.getElem?_eq_some_iff.mp hv).1
  have hb:(bs.map V.bl)[i]?=some (.bl bs[i]):=by simp[hi]
  obtain⟨u,hu,ru⟩:=rv.get hb
  rw[hv] at hu;cases hu
  cases ru
  have e:bs.getD i false=bs[i]:=by simp[List.getD,hi]
  have hq':Q' (bs.getD i false) s':=hq'
  rw[e] at hq'
  exact wpAny_truthy_bool hq'
 ·have e:((List.range its.toArray.size).all λi=>bs.getD i false)=bs.all λx=>x:=by
   rw[List.size_toArray,<-hl,Bool.eq_iff_iff]
   simp only[List.all_eq_true,List.mem_range]
   constructor
   ·intro h x hx
    obtain⟨i,hi,e⟩:=List.mem_iff_getElem.mp hx
    have:=h i hi
    simpa[List.getD,hi,e] using this
   ·intro h i hi
    have:=h bs[i] (List.getElem_mem hi)
    simpa[List.getD,hi] using this
  rw[e]
  refine⟨.bl (bs.all λx=>x),H,I.kept (t':=tk) λb o e=>hk b o (λz=>?_) (Heap.get?_push_of_some _ e),rfl,q⟩
  have:b=s.heap.objs.size:=by simpa using z
  exact absurd (Heap.lt_size e) (by rw[this];exact Nat.lt_irrefl _)
def asBs:List D->Option (List Bool)
 | []=>some []
 |.bl b::r=>(asBs r).map (b::·)
 |_=>none
theorem u5 {K:KW}{F:Hp}:∀ {ds:List D} {vs:List V} {bs:List Bool},asBs ds=some bs->Rps K F ds vs->vs=bs.map V.bl
 | [],_,_,e,h=>by cases e;cases h;rfl
 |.bl b::r,_,_,e,⟨v,w,e1,h,t⟩=>by
  subst e1;cases h
  cases q:asBs r with
  |none=>rw[show asBs (.bl b::r)=(asBs r).map (b::·) from rfl,q] at e;cases e
  |some bs=>
   rw[show asBs (.bl b::r)=(asBs r).map (b::·) from rfl,q] at e
   cases e
   rw[u5 q t];rfl
 |.non::_,_,_,e,_=>by cases e
 |.int _::_,_,_,e,_=>by cases e
 |.str _::_,_,_,e,_=>by cases e
 |.lst _::_,_,_,e,_=>by cases e
 |.tup _::_,_,_,e,_=>by cases e
 |.scr _::_,_,_,e,_=>by cases e
 |.obj _ _ _::_,_,_,e,_=>by cases e
 |.emp::_,_,_,e,_=>by cases e
 |.xc _::_,_,_,e,_=>by cases e
def fAll:List D->Option D
 | [.lst ds]=>(asBs ds).map λbs=>.bl (bs.all λx=>x)
 |_=>none
theorem Qd {K:KW}:CallOk K (λxs H Q=>∃(a:Addr) (bs:List Bool),xs=[.ref a]/\SqL K H a (bs.map V.bl)/\Q (.bl (bs.all λx=>x)) H) (pE K) fAll:=by
 intro F H vs ds d Q s hp e k
 unfold fAll at e
 split at e
 ·rename_i ds
  obtain⟨v,rfl,r⟩:=pair1 hp
  obtain⟨a,ws,rfl,h1,h2⟩:=r.lst s
  cases q:asBs ds with
  |none=>rw[q] at e;cases e
  |some bs=>
   rw[q] at e
   cases e
   have:=u5 q h2
   subst this
   exact⟨a,bs,rfl,.of h1,k _ F H (.refl s) rfl⟩
 ·cases e
theorem Wq:CallR X (.type "list") (λxs H Q=>∃a vs,xs=[.ref a]/\(SqL X.kw H a vs∨SqT X.kw H a vs)/\∀p,H p=none->Q (.ref p) (upd H p (.lst vs))):=by
 intro pins s σ H vs us Q I r h
 obtain⟨a,ws,rfl,hq,q⟩:=h
 obtain⟨u,rfl,ru⟩:=vals1 r
 cases ru
 have fin:∀ {T:String} {o:Obj} {its:List Value} {n:Nat},(T = "list" ∨ T = "tuple")->s.heap.get? a=some o->o.cls=.type T->o.data=.seq its.toArray n->Vals ws its->ws.length<=sizeLine->wpAny (model X.prog X.w) X.A (call (.type "list") [.ref a]) (EP X pins σ Q) X.xe s:=by
  intro T o its n hT ho hc hd rv hz
  have hl:=rv.length
  refine call_list_seq a hT ho hc hd (λh' c' hk hn=>?_) (by rw[List.size_toArray,<-hl];exact hz)
  exact⟨.ref s.heap.objs.size,upd H s.heap.objs.size (.lst ws),I.laid (t':=s.toks) hk (Nat.le_refl _) ⟨hz,its,c',rv,hn⟩,rfl,q _ (I.hok.fresh (Nat.le_refl _))⟩
 rcases hq with hq | hq
 ·obtain⟨its,rv,⟨o,n,e,c1,c2,c3⟩,hz⟩:=I.list hq
  exact fin (.inl rfl) e c1 c3 rv hz
 ·obtain⟨its,rv,⟨o,e,c1,n,c3⟩,hz⟩:=I.tuple hq
  exact fin (.inr rfl) e c1 c3 rv hz
def fList:List D->Option (List D)
 | [.lst ds]=>some ds
 | [.tup ds]=>some ds
 | [.scr ns]=>some (ns.map D.int)
 |_=>none
theorem QA {K:KW}:CallOk K (λxs H Q=>∃a vs,xs=[.ref a]/\(SqL K H a vs∨SqT K H a vs)/\∀p,H p=none->Q (.ref p) (upd H p (.lst vs))) (pA K) fList:=by
 intro F H vs ds d Q s hp e k
 unfold fList at e
 split at e
 ·cases e
  obtain⟨v,rfl,r⟩:=pair1 hp
  obtain⟨a,ws,rfl,h1,h2⟩:=r.lst s
  exact⟨a,ws,rfl,.inl (.of h1),λp hp=>k _ F _ (.new s hp) ⟨p,ws,rfl,hp,zm,s.free hp,h2⟩⟩
 ·cases e
  obtain⟨v,rfl,r⟩:=pair1 hp
  obtain⟨a,ws,rfl,h1,h2⟩:=r.tup s
  exact⟨a,ws,rfl,.inr (.of h1),λp hp=>k _ F _ (.new s hp) ⟨p,ws,rfl,hp,zm,s.free hp,h2⟩⟩
 ·cases e
  obtain⟨v,rfl,r⟩:=pair1 hp
  obtain⟨a,rfl,h1⟩:=r.scr s
  exact⟨a,_,rfl,.inl h1,λp hp=>k _ F _ (.new s hp) ⟨p,_,rfl,hp,zm,s.free hp,Rps.ints _⟩⟩
 ·cases e
def ArgE (K:KW)(F H:Hp):En->V->Prop
 |.val d,v=>Rp K F d v
 |.bor ds,v=>∃a vs,v=.ref a/\H a=some (.lst vs)/\Rps K F ds vs
 |.dbo kvs,v=>∃a ob vs,v=.ref a/\H a=some (DX K.w a ob vs)/\Rkv K F kvs vs
 |.exn a,v=>v=.ref a
 |.mbo t,v=>RepM K F H t v
 |_,_=>False
theorem ArgE.ext {K:KW}{F H F' H':Hp}(e:Ext F H F' H'):∀ {x:En} {v:V},ArgE K F H x v->ArgE K F' H' x v
 |.val _,_,h=>Rp.mono e.ff h
 |.bor _,_,⟨a,vs,e1,e2,e3⟩=>⟨a,vs,e1,e.hh _ _ e2,e3.mono e.ff⟩
 |.acc _,_,h=>h
 |.oac _ _ _ _ _,_,h=>h
 |.tre _,_,h=>h
 |.dct _ _,_,h=>h
 |.dbo _,_,⟨a,ob,vs,e1,e2,e3⟩=>⟨a,ob,vs,e1,e.hh _ _ e2,e3.mono e.ff⟩
 |.exn _,_,h=>h
 |.obw _ _ _,_,h=>h
 |.mbo _,_,h=>RepM.ext e.ff e.hh h
def pN (K:KW):Post En:=λ_ _ F' H' x v=>ArgE K F' H' x v
def DN (X:Cx)(B:Bs)(e:Expr)(g:EnvD->Option En):Prop:=PE X e (lG X.kw B (pN X.kw) g)
def lNs (K:KW)(B:Bs)(g:EnvD->Option (List En)):TA:=λσ H Q=>
 Lq K B g σ H λF ρ xs=>∀vs F' H',Ext F H F' H'->Paired (λx v=>ArgE K F' H' x v) xs vs->Q vs H'
def DNs (X:Cx)(B:Bs)(es:List Expr)(g:EnvD->Option (List En)):Prop:=PA X es (lNs X.kw B g)
def gVal (g:EnvD->Option D):EnvD->Option En:=λρ=>(g ρ).map En.val
theorem zg (h:DE X B e g):DN X B e (gVal g):=zr h λσ H Q zz=>zz.el λF ρ x r hg k=>by
 unfold gVal at hg
 cases q:g ρ with
 |none=>rw[q] at hg;cases hg
 |some d=>rw[q] at hg;cases hg;exact⟨F,ρ,d,r,q,λv F' H' e p=>k v F' H' e p⟩
def gn (i:Nat):EnvD->Option En:=λρ=>match ρ[i]? with
 |some (some (.val d))=>some (.val d)
 |some (some (.acc ds))=>some (.bor ds)
 |some (some (.bor ds))=>some (.bor ds)
 |some (some (.dct _ kvs))=>some (.dbo kvs)
 |some (some (.dbo kvs))=>some (.dbo kvs)
 |_=>none
theorem zk (i:Nat){x:Str}(h:PE X (.Name x pos) (tVar i):=by exact pv _):DN X B (.Name x pos) (gn i) :=
 zr h λσ H Q zz=>zz.el λF ρ d r hg k=>by
  unfold gn at hg
  split at hg
  ·rename_i d' e
   cases hg
   obtain⟨v,h1,h2⟩:=r.ents i _ e
   exact⟨v,h1,k v F H (.refl r.fh) h2⟩
  ·rename_i ds e
   cases hg
   obtain⟨v,h1,a,vs,e1,e2,e3,e4,e5⟩:=r.ents i _ e
   exact⟨v,h1,k v F H (.refl r.fh) ⟨a,vs,e1,e2,e5⟩⟩
  ·rename_i ds e
   cases hg
   obtain⟨v,h1,a,vs,e1,e2,e5⟩:=r.ents i _ e
   exact⟨v,h1,k v F H (.refl r.fh) ⟨a,vs,e1,r.ex.hh _ _ e2,e5⟩⟩
  ·rename_i oa kvs e
   cases hg
   obtain⟨v,h1,a,ob,vs,e1,e2,e3,e4,e5,e6⟩:=r.ents i _ e
   exact⟨v,h1,k v F H (.refl r.fh) ⟨a,ob,vs,e1,e2,e5⟩⟩
  ·rename_i kvs e
   cases hg
   obtain⟨v,h1,a,ob,vs,e1,e2,e5⟩:=r.ents i _ e
   exact⟨v,h1,k v F H (.refl r.fh) ⟨a,ob,vs,e1,r.ex.hh _ _ e2,e5⟩⟩
  ·cases hg
def nNil:EnvD->Option (List En):=λ_=>some []
def nCons (g:EnvD->Option En)(gs:EnvD->Option (List En)):EnvD->Option (List En):=λρ=>(g ρ).bind λd=>(gs ρ).bind λds=>some (d::ds)
variable {gx:EnvD->Option En}{gxs:EnvD->Option (List En)}
theorem zj:DNs X B [] nNil:=xl zQ λσ H Q zz=>zz.el λF ρ ds r hg k=>by cases hg;exact k [] F H (.refl r.fh) .nil
theorem zc (ha:DN X B e gx)(hr:DNs X B es gxs)(hs:starEach (e::es) X.env=(false,eval e X.env)::starEach es X.env:=by rfl):DNs X B (e::es) (nCons gx gxs) :=
 xl (z5 ha hr hs) λσ H Q zz=>zz.el λF ρ ds r hg k=>by
  obtain⟨d,dr,q1,q2,q3⟩:=bind2 hg
  cases q3
  exact⟨F,ρ,d,r,q1,λv F1 H1 e1 p1=>⟨F1,ρ,dr,r.ext e1,q2,λvs F2 H2 e2 p2=>k _ F2 H2 (e1.trans e2) (.cons (ArgE.ext e2 p1) p2)⟩⟩
def pSp (K:KW)(n:Nat)(m:List En->Option En):Sp:=λvs H Q _=>
 ∃F xs o,Same F H/\xs.length=n/\Paired (λx v=>ArgE K F H x v) xs vs/\m xs=some o/\∀v F' H',Ext F H F' H'->RepE K ⟨F,H⟩ F' H' o v->Q v H'
def frzO:En->Option D
 |.val d=>some d
 |.acc ds=>some (.lst ds)
 |.tre t=>some t.erase
 |_=>none
def accO:En->Option (List D)
 |.acc ds=>some ds
 |_=>none
theorem ZQ {K:KW}{F H F' H':Hp}{o:En}{d:D}{v:V}(hd:frzO o=some d)(e:Ext F H F' H')(r:RepE K ⟨F,H⟩ F' H' o v):∃F2,Ext F H F2 H'/\Rp K F2 d v:=by
 cases o with
 |val x=>cases hd;exact⟨F',e,r⟩
 |acc ds=>
  cases hd
  obtain⟨a,vs,rfl,h1,h2,h3,h4⟩:=r
  exact⟨upd F' a (.lst vs),e.freeze h3 h2 h1,⟨a,vs,rfl,zm,h4.mono (ya h2)⟩⟩
 |tre t=>
  cases hd
  obtain⟨r1,r2,r3⟩:=r
  have sf:Same F' (addF F' H' (feetO H' t v)):=Q2 λa ha=>(r3 a ha).1
  refine⟨addF F' H' (feetO H' t v),⟨e.ff.trans sf,e.hh,λb u q=>?_,λb q=>?_⟩,RepO.fz sf r1 λa ha=>ha⟩
  ·unfold addF at q
   split at q
   ·exact q
   ·exact e.fh b u q
  ·unfold addF at q
   split at q
   ·rename_i hb;exact .inr (r3 b hb).2
   ·exact e.nw b q
 |_=>cases hd
def gCall {α:Type}(m:List En->Option En)(f:En->Option α)(gs:EnvD->Option (List En)):EnvD->Option α:=λρ=>((gs ρ).bind m).bind f
theorem bindC {α:Type}{m:List En->Option En}{f:En->Option α}{gs:EnvD->Option (List En)}{ρ:EnvD}{y:α}(h:gCall m f gs ρ=some y):∃xs o,gs ρ=some xs/\m xs=some o/\f o=some y:=by
 unfold gCall at h
 cases q:gs ρ with
 |none=>rw[q] at h;cases h
 |some xs=>
  rw[q] at h
  cases q2:m xs with
  |none=>rw[show (some xs).bind m=m xs from rfl,q2] at h;cases h
  |some o=>rw[show (some xs).bind m=m xs from rfl,q2] at h;exact⟨xs,o,rfl,q2,h⟩
theorem vf {α β:Type}{R:α->β->Prop}{l:List α}{r:List β}(h:Paired R l r):l.length=r.length:=Paired.length h
theorem Vq {n:Nat}{m:List En->Option En}(hm:∀xs o,m xs=some o->xs.length=n){E:XK}{σ:St}{H:Hp}{Q:VK}(h:lG X.kw B (pE X.kw) (gCall m frzO gxs) σ H Q):tCall (pSp X.kw n m) [] E (lNs X.kw B gxs) σ H Q:=by
 refine Lq.el h λF ρ d r hg k=>?_
 obtain⟨xs,o,q1,q2,q3⟩:=bindC hg
 refine⟨F,ρ,xs,r,q1,λvs F1 H1 e1 p1=>?_⟩
 show pSp X.kw n m (vs++[]) H1 Q E
 rw[List.append_nil]
 refine⟨F1,xs,o,e1.fh,hm xs o q2,p1,q2,λv F2 H2 e2 p2=>?_⟩
 obtain⟨F3,e3,p3⟩:=ZQ q3 e2 p2
 exact k v F3 H2 (e1.trans e3) p3
theorem JV {n:Nat}{m:List En->Option En}(hm:∀xs o,m xs=some o->xs.length=n){E:XK}{σ:St}{H:Hp}{Q:VK}(h:lG X.kw B (pA X.kw) (gCall m accO gxs) σ H Q):tCall (pSp X.kw n m) [] E (lNs X.kw B gxs) σ H Q:=by
 refine Lq.el h λF ρ d r hg k=>?_
 obtain⟨xs,o,q1,q2,q3⟩:=bindC hg
 refine⟨F,ρ,xs,r,q1,λvs F1 H1 e1 p1=>?_⟩
 show pSp X.kw n m (vs++[]) H1 Q E
 rw[List.append_nil]
 refine⟨F1,xs,o,e1.fh,hm xs o q2,p1,q2,λv F2 H2 e2 p2=>?_⟩
 cases o with
 |acc ds=>
  cases q3
  obtain⟨a,ws,h1,h2,h3,h4,h5⟩:=p2
  exact k v F2 H2 (e1.trans e2) ⟨a,ws,h1,e1.hh.free h4,h2,h3,h5⟩
 |_=>cases q3
def len? (n:Nat)(m:List En->Option En):List En->Option En:=λxs=>if xs.length=n then m xs else none
theorem jU {n:Nat}{m:List En->Option En}:∀xs o,len? n m xs=some o->xs.length=n:=λxs o h=>by
 unfold len? at h
 split at h
 ·assumption
 ·cases h
variable {x mm:Str}{f C:Addr}{fd:FuncData}{ps:List Str}{n k:Nat}{m:List En->Option En}{apos:Pos}{o:Expr}
theorem Vn (F:FnOk X.prog X.w X.kw X.mg X.base CX0 k f fd ps (pSp X.kw n (len? n m)))(hr:Room k X.A)(hg:Gl X x)(hm:X.mg x=some (.ref f))(hk:keepIn X.kw (.ref f)=true)(hb:Binds X.kw fd ps [])
  (ha:DNs X B (e::es) gxs) (hdb:(x==("__debug__" : Str))=false:=by decide) (he:starEach (e::es) X.env=(false,eval e X.env)::starEach es X.env:=by rfl) (hpl:(backTo pos (starEach es X.env)).any (·.1)=false:=by rfl) :
  DE X B (.Call (.Name x p) (e::es) [] pos) (gCall (len? n m) frzO gxs) :=
 zr (uV F hr hg hm hk hb .nil pass0 ha hdb he hpl) λσ H Q h=>Vq jU h
theorem QH (F:FnOk X.prog X.w X.kw X.mg X.base CX0 k f fd ps (pSp X.kw n (len? n m)))(hr:Room k X.A)(hg:Gl X x)(hm:X.mg x=some (.ref f))(hk:keepIn X.kw (.ref f)=true)(hb:Binds X.kw fd ps [])
  (ha:DNs X B (e::es) gxs) (hdb:(x==("__debug__" : Str))=false:=by decide) (he:starEach (e::es) X.env=(false,eval e X.env)::starEach es X.env:=by rfl) (hpl:(backTo pos (starEach es X.env)).any (·.1)=false:=by rfl) :
  DA X B (.Call (.Name x p) (e::es) [] pos) (gCall (len? n m) accO gxs) :=
 zr (uV F hr hg hm hk hb .nil pass0 ha hdb he hpl) λσ H Q h=>JV jU h
end
def lookZ {α:Type}(f:Str):List Str->List α->Option α
 |k::ks,x::xs=>if f=k then some x else lookZ f ks xs
 |_,_=>none
def putZ {α:Type}(f:Str)(a:α):List Str->List α->List Str×List α
 |k::ks,x::xs=>if k=f then (k::ks,a::xs) else (k::(putZ f a ks xs).1,x::(putZ f a ks xs).2)
 |_,_=>([f],[a])
theorem j9 {α:Type}{f:Str}:∀ {fs:List Str} {vs:List α},(fs.zip vs).lookup f=lookZ f fs vs
 | [],_=>by simp[lookZ]
 |_::_,[]=>by simp[lookZ]
 |k::ks,x::xs=>by
  rw[List.zip_cons_cons,List.lookup_cons]
  by_cases h:f=k
  ·subst h;simp[lookZ]
  ·rw[beq_eq_false_iff_ne.mpr h]
   simp only[lookZ,if_neg h]
   exact j9
theorem uf {K:KW}{F:Hp}{f:Str}:∀ {fs:List Str} {ds:List D} {vs:List V} {d:D},Rps K F ds vs->lookZ f fs ds=some d->∃v,lookZ f fs vs=some v/\Rp K F d v
 | [],_,_,_,_,e=>by simp[lookZ] at e
 |_::_,[],_,_,_,e=>by simp[lookZ] at e
 |k::ks,x::xs,_,d,⟨v,r,e1,h,t⟩,e=>by
  subst e1
  simp only[lookZ] at e ⊢
  by_cases hk:f=k
  ·rw[if_pos hk] at e ⊢;cases e;exact⟨v,rfl,h⟩
  ·rw[if_neg hk] at e ⊢;exact uf t e
theorem ug {f:Str}{v:V}:∀ {fs:List Str} {vs:List V},fs.length=vs.length->putF f v (fs.zip vs)=(putZ f v fs vs).1.zip (putZ f v fs vs).2/\(putZ f v fs vs).1.length=(putZ f v fs vs).2.length
 | [],[],_=>⟨rfl,rfl⟩
 | [],_::_,h=>by simp at h
 |_::_,[],h=>by simp at h
 |k::ks,x::xs,h=>by
  obtain⟨i1,i2⟩:=ug (f:=f) (v:=v) (fs:=ks) (vs:=xs) (by simpa using h)
  rw[List.zip_cons_cons]
  simp only[putF,putZ]
  by_cases hk:k=f
  ·rw[if_pos hk,if_pos hk]
   exact⟨rfl,by simpa using h⟩
  ·rw[if_neg hk,if_neg hk]
   exact⟨by rw[i1];rfl,by simpa using i2⟩
theorem uX {K:KW}{F:Hp}{f:Str}{d:D}{v:V}(hd:Rp K F d v):∀ {fs:List Str} {ds:List D} {vs:List V},fs.length=vs.length->Rps K F ds vs->(putZ f d fs ds).1=(putZ f v fs vs).1/\Rps K F (putZ f d fs ds).2 (putZ f v fs vs).2
 | [],ds,vs,_,r=>by
  cases ds<;>cases vs<;>exact⟨rfl,_,_,rfl,hd,rfl⟩
 |k::ks,[],_,h,r=>by cases r;simp at h
 |k::ks,x::xs,_,h,⟨w,r,e,hx,t⟩=>by
  subst e
  obtain⟨i1,i2⟩:=uX hd (fs:=ks) (by simpa using h) t
  simp only[putZ]
  by_cases hk:k=f
  ·rw[if_pos hk,if_pos hk];exact⟨rfl,_,_,rfl,hd,t⟩
  ·rw[if_neg hk,if_neg hk];exact⟨by rw[i1],_,_,rfl,hx,i2⟩
section
variable {X:Cx}{B:Bs}{e a b c o:Expr}{es:List Expr}{pos p apos:Pos}{g ga gb:EnvD->Option D}{gx:EnvD->Option En}{gxs:EnvD->Option (List En)}{C f:Addr}{fl mm x:Str}{fd:FuncData}{ps:List Str}{n k:Nat}{m:List En->Option En}
def gFld (C:Addr)(fl:Str)(g:EnvD->Option D):EnvD->Option D:=λρ=>(g ρ).bind λd=>match d with
 |.obj C' fs ds=>if C'=C then lookZ fl fs ds else none
 |_=>none
theorem Q5 {ρ:EnvD}{d:D}(h:gFld C fl g ρ=some d):∃fs ds,g ρ=some (.obj C fs ds)/\lookZ fl fs ds=some d:=by
 unfold gFld at h
 cases q:g ρ with
 |none=>rw[q] at h;cases h
 |some x=>
  rw[q] at h
  cases x with
  |obj C' fs ds=>
   replace h:(if C'=C then lookZ fl fs ds else none)=some d:=h
   by_cases e:C'=C
   ·rw[if_pos e] at h;subst e;exact⟨fs,ds,rfl,h⟩
   ·rw[if_neg e] at h;cases h
  |_=>cases h
theorem yH (cl:Cls X.kw C)(na:NoAttr X.kw C fl)(he:DE X B e g)(hb:attributeBase e fl X.env (eval e X.env)=eval e X.env:=by rfl):DE X B (.Attribute e fl pos) (gFld C fl g) :=
 zr (WB he hb) λσ H Q zz=>zz.el λF ρ d r hg k=>by
  obtain⟨fs,ds,q,hl⟩:=Q5 hg
  refine⟨F,ρ,_,r,q,λv F1 H1 e1 p1=>?_⟩
  obtain⟨a,dx,vs,rfl,h1,h2,h3⟩:=p1
  obtain⟨w,h4,h5⟩:=uf h3 hl
  exact⟨a,C,dx,_,w,rfl,e1.fh _ _ h1,cl,na,by rw[j9];exact h4,k w F1 H1 e1 h5⟩
def gMeth {α:Type}(C:Addr)(mm:Str)(m:List En->Option En)(f:En->Option α)(go:EnvD->Option D)(gs:EnvD->Option (List En)):EnvD->Option α:=λρ=>(go ρ).bind λd=>match d with
 |.obj C' fs ds=>if C'=C/\lookZ mm fs ds=none then ((gs ρ).bind λxs=>m (.val d::xs)).bind f else none
 |_=>none
theorem YW {α:Type}{f:En->Option α}{go:EnvD->Option D}{gs:EnvD->Option (List En)}{ρ:EnvD}{y:α}(h:gMeth C mm m f go gs ρ=some y) :
  ∃fs ds xs o,go ρ=some (.obj C fs ds)/\lookZ mm fs ds=none/\gs ρ=some xs/\m (.val (.obj C fs ds)::xs)=some o/\f o=some y:=by
 unfold gMeth at h
 cases q:go ρ with
 |none=>rw[q] at h;cases h
 |some x=>
  rw[q] at h
  cases x with
  |obj C' fs ds=>
   replace h:(if C'=C/\lookZ mm fs ds=none then ((gs ρ).bind λxs=>m (.val (.obj C' fs ds)::xs)).bind f else none)=some y:=h
   by_cases e:C'=C/\lookZ mm fs ds=none
   ·rw[if_pos e] at h
    obtain⟨e,hl⟩:=e
    subst e
    cases q2:gs ρ with
    |none=>rw[q2] at h;cases h
    |some xs=>
     rw[q2] at h
     replace h:(m (.val (.obj C' fs ds)::xs)).bind f=some y:=h
     cases q3:m (.val (.obj C' fs ds)::xs) with
     |none=>rw[q3] at h;cases h
     |some o=>rw[q3] at h;exact⟨fs,ds,xs,o,rfl,hl,rfl,q3,h⟩
   ·rw[if_neg e] at h;cases h
  |_=>cases h
theorem Yj {α β:Type}{f:Str}:∀ {fs:List Str} {ds:List α} {vs:List β},ds.length=vs.length->lookZ f fs ds=none->lookZ f fs vs=none
 | [],_,_,_,_=>by simp[lookZ]
 |_::_,[],vs,h,_=>by
  cases vs with
  |nil=>simp[lookZ]
  |cons=>simp at h
 |_::_,_::_,[],h,_=>by simp at h
 |k::ks,x::xs,v::vs,h,e=>by
  simp only[lookZ] at e ⊢
  by_cases hk:f=k
  ·rw[if_pos hk] at e;cases e
  ·rw[if_neg hk] at e ⊢;exact Yj (by simpa using h) e
theorem ZC {E:XK}{σ:St}{H:Hp}{Q:VK}(h:lG X.kw B (pE X.kw) (gMeth C mm (len? n m) frzO g gxs) σ H Q):tMeth C mm (pSp X.kw n (len? n m)) [] E (lG X.kw B (pE X.kw) g) (lNs X.kw B gxs) σ H Q:=by
 refine Lq.el h λF ρ d r hg k=>?_
 obtain⟨fs,ds,xs,o,q1,q2,q3,q4,q5⟩:=YW hg
 refine⟨F,ρ,_,r,q1,λv F1 H1 e1 p1=>?_⟩
 obtain⟨a,dx,vs,rfl,h1,h2,h3⟩:=id p1
 refine⟨a,dx,_,rfl,e1.fh _ _ h1,by rw[j9];exact Yj h3.length q2,F1,ρ,xs,r.ext e1,q3,λws F2 H2 e2 p2=>?_⟩
 show pSp X.kw n (len? n m) (.ref a::(ws++[])) H2 Q E
 rw[List.append_nil]
 refine⟨F2,_,o,e2.fh,jU _ _ q4,.cons (Rp.mono e2.ff p1) p2,q4,λw F3 H3 e3 p3=>?_⟩
 obtain⟨F4,e4,p4⟩:=ZQ q5 e3 p3
 exact k w F4 H3 (e1.trans (e2.trans e4)) p4
theorem VF {pl:Sem Bool}(ho:DE X B o g)(c:Cls X.kw C)(hm:Meth X.kw C mm f)(F:FnOk X.prog X.w X.kw X.mg X.base CX0 k f fd ps (pSp X.kw n (len? n m)))(hr:Room k X.A)(hb:Binds X.kw fd ps [])(ha:DNs X B (e::es) gxs)
  (hst:starEach (e::es) X.env=(false,eval e X.env)::starEach es X.env:=by rfl) (hpl:(backTo pos (starEach es X.env)).any (·.1)=false:=by rfl)
  (ht:eval (.Call (.Attribute o mm apos) (e::es) [] pos) X.env=(do
   let ov <-eval o X.env
   standAt apos.atName
   let (f,first) <-holding [ov] (getMethod ov mm pl)
   callWith pos f first (backTo pos (starEach (e::es) X.env)) (backToKw pos (keywordEach [] X.env))):=by rfl) :
  DE X B (.Call (.Attribute o mm apos) (e::es) [] pos) (gMeth C mm (len? n m) frzO g gxs) :=
 zr (WC ho c hm F hr hb .nil pass0 ha hst hpl ht) λσ H Q h=>ZC h
theorem J6 {pl:Sem Bool}(ho:DE X B o g)(c:Cls X.kw C)(hm:Meth X.kw C mm f)(F:FnOk X.prog X.w X.kw X.mg X.base CX0 k f fd ps (pSp X.kw n (len? n m)))(hr:Room k X.A)(hb:Binds X.kw fd ps [])
  (ht:eval (.Call (.Attribute o mm apos) [] [] pos) X.env=(do
   let ov <-eval o X.env
   standAt apos.atName
   let (f,first) <-holding [ov] (getMethod ov mm pl)
   callWith pos f first (backTo pos (starEach [] X.env)) (backToKw pos (keywordEach [] X.env))):=by rfl) :
  DE X B (.Call (.Attribute o mm apos) [] [] pos) (gMeth C mm (len? n m) frzO g nNil) :=
 zr (Y8 ho c hm F hr hb .nil pass0 ht) λσ H Q h=>by
  obtain⟨F,ρ,d,r,q,k⟩:=ZC (E:=E0) h
  refine⟨F,ρ,d,r,q,λv F1 H1 e1 p1=>?_⟩
  obtain⟨a,dx,fs,h1,h2,h3,F2,ρ',xs,r2,q2,k2⟩:=k v F1 H1 e1 p1
  cases q2
  exact⟨a,dx,fs,h1,h2,h3,k2 [] F2 H1 (.refl r2.fh) .nil⟩
def iSp (K:KW)(C:Addr)(n:Nat)(mi:Addr->Addr->List En->Option (List Str×List D)):Sp:=λvs H Q _=>
 ∃F H1 xs x dx vs' fs ds,vs=.ref x::vs'/\H1 x=none/\H1 dx=none/\dx≠x/\H=upd (upd H1 dx (.own x)) x (.ins C dx [])/\Same F H1/\xs.length=n/\Paired (λy v=>ArgE K F H1 y v) xs vs'/\mi x dx xs=some (fs,ds) /\
  ∀F' H' us,Ext F H1 F' H'->F' x=none->H' x=some (.ins C dx (fs.zip us))->fs.length=us.length->Rps K F' ds us->(H' dx=some (.own x)/\F' dx=none)->Q .non H'
def gMake (C:Addr)(n:Nat)(mi:List En->Option (List Str×List D))(gs:EnvD->Option (List En)):EnvD->Option D:=λρ=>(gs ρ).bind λxs=>if xs.length=n then (mi xs).map λr=>.obj C r.1 r.2 else none
theorem K1 {mi:List En->Option (List Str×List D)}{mi':Addr->Addr->List En->Option (List Str×List D)}(hmi:∀x dx xs,mi' x dx xs=mi xs)(M:Mk X.kw C f)(F:FnOk X.prog X.w X.kw X.mg X.base CX0 k f fd ps (iSp X.kw C n mi'))(hr:Room (k+1) X.A)(hg:Gl X x)(hm:X.mg x=some (.ref C))(hb:Binds X.kw fd ps [])
  (ha:DNs X B (e::es) gxs) (hdb:(x==("__debug__" : Str))=false:=by decide) (he:starEach (e::es) X.env=(false,eval e X.env)::starEach es X.env:=by rfl) (hpl:(backTo pos (starEach es X.env)).any (·.1)=false:=by rfl) :
  DE X B (.Call (.Name x p) (e::es) [] pos) (gMake C n mi gxs) :=
 zr (Qg M F hr hg hm hb .nil pass0 ha hdb he hpl) λσ H Q zz=>zz.el λF ρ d r hg k=>by
  unfold gMake at hg
  cases q:gxs ρ with
  |none=>rw[q] at hg;cases hg
  |some xs=>
   rw[q] at hg
   have hg:(if xs.length=n then (mi xs).map (λr=>D.obj C r.1 r.2) else none)=some d:=hg
   split at hg
   ·rename_i hl
    cases q2:mi xs with
    |none=>rw[q2] at hg;cases hg
    |some fr=>
     rw[q2] at hg
     cases hg
     refine⟨F,ρ,xs,r,q,λvs F1 H1 e1 p1 x dx nx ndx nex=>?_⟩
     show iSp X.kw C n mi' (.ref x::(vs++[])) _ _ _
     rw[List.append_nil]
     refine⟨F1,H1,xs,x,dx,vs,fr.1,fr.2,rfl,nx,ndx,nex,rfl,e1.fh,hl,p1,by rw[hmi];exact q2,λF2 H2 us e2 h1 h2 h3 h4 _=>⟨rfl,?_⟩⟩
     exact k _ (upd F2 x (.ins C dx (fr.1.zip us))) H2 (e1.trans (e2.freeze nx h1 h2)) ⟨x,dx,us,rfl,zm,h3,h4.mono (ya h1)⟩
   ·cases hg
end
inductive Fl where
 |next (ρ:EnvD) | ret (o:En) | brk (ρ:EnvD) | cont (ρ:EnvD)
def Fl.ok (K:KW)(B:Bs)(F:Hp)(E:Ends):Fl->Prop
 |.next ρ=>∀σ' F' H',Rep K B F' σ' H' ρ->Same F F'->E.nx σ' H'
 |.brk ρ=>∀σ' F' H',Rep K B F' σ' H' ρ->Same F F'->E.bk σ' H'
 |.cont ρ=>∀σ' F' H',Rep K B F' σ' H' ρ->Same F F'->E.ct σ' H'
 |.ret o=>∀v F' H',Ext B.F0 B.H0 F' H'->RepE K B F' H' o v->E.rt v H'
abbrev SD:=EnvD->Option Fl
def lS (K:KW)(B:Bs)(g:SD):TS:=λE σ H=>Lq K B g σ H λF ρ fl=>fl.ok K B F E
def DS (X:Cx)(B:Bs)(st:Stmt)(g:SD):Prop:=PS X st (lS X.kw B g)
def DSs (X:Cx)(B:Bs)(sts:List Stmt)(g:SD):Prop:=PSs X sts (lS X.kw B g)
theorem Fl.ok.mono {K:KW}{B:Bs}{F F':Hp}{E:Ends}{fl:Fl}(s:Same F F')(h:fl.ok K B F E):fl.ok K B F' E:=by
 cases fl with
 |next ρ=>exact λσ' F2 H' r s2=>h σ' F2 H' r (s.trans s2)
 |brk ρ=>exact λσ' F2 H' r s2=>h σ' F2 H' r (s.trans s2)
 |cont ρ=>exact λσ' F2 H' r s2=>h σ' F2 H' r (s.trans s2)
 |ret o=>exact h
section
variable {X:Cx}{B:Bs}{e a b c o:Expr}{es:List Expr}{st:Stmt}{rest:List Stmt}{pos p apos:Pos}{g ga gb:EnvD->Option D}{gl:EnvD->Option (List D)}{gs1 gs2:SD}{x:Str}
def sSeq (g1 g2:SD):SD:=λρ=>(g1 ρ).bind λfl=>match fl with
 |.next ρ'=>g2 ρ'
 |fl=>some fl
def sNext:SD:=λρ=>some (.next ρ)
theorem zC:DSs X B [] sNext:=wN Js λE σ H zz=>zz.el λF ρ fl r hg k=>by cases hg;exact k σ F H r (Same.refl _)
theorem zh (h:DS X B st gs1):DSs X B [st] gs1:=y7 h
theorem zi (h1:DS X B st gs1)(h2:DSs X B rest gs2):DSs X B (st::rest) (sSeq gs1 gs2) :=
 wN (ye h1 h2) λE σ H zz=>zz.el λF ρ fl r hg k=>by
  unfold sSeq at hg
  cases q:gs1 ρ with
  |none=>rw[q] at hg;cases hg
  |some f1=>
   rw[q] at hg
   refine⟨F,ρ,f1,r,q,?_⟩
   cases f1 with
   |next ρ'=>exact λσ' F' H' r' s'=>⟨F',ρ',fl,r',hg,k.mono s'⟩
   |brk ρ'=>cases hg;exact k
   |cont ρ'=>cases hg;exact k
   |ret o'=>cases hg;exact k
def sSet (i:Nat)(g:EnvD->Option D):SD:=λρ=>(g ρ).map λd=>.next (ρ.set i (some (.val d)))
def sSetA (i:Nat)(g:EnvD->Option (List D)):SD:=λρ=>(g ρ).map λds=>.next (ρ.set i (some (.acc ds)))
theorem Yn {i:Nat}{E:Ends}{σ:St}{H:Hp}(h:lS X.kw B (sSet i g) E σ H):tAsg (lG X.kw B (pE X.kw) g) (gName i) E σ H:=by
 refine Lq.el h λF ρ fl r hg k=>?_
 unfold sSet at hg
 cases q:g ρ with
 |none=>rw[q] at hg;cases hg
 |some d=>
  rw[q] at hg
  cases hg
  exact⟨F,ρ,d,r,q,λv F1 H1 e1 p1=>k _ F1 H1 ((r.ext e1).setv p1) e1.ff⟩
theorem Wd {i:Nat}{E:Ends}{σ:St}{H:Hp}(h:lS X.kw B (sSetA i gl) E σ H):tAsg (lG X.kw B (pA X.kw) gl) (gName i) E σ H:=by
 refine Lq.el h λF ρ fl r hg k=>?_
 unfold sSetA at hg
 cases q:gl ρ with
 |none=>rw[q] at hg;cases hg
 |some ds=>
  rw[q] at hg
  cases hg
  refine⟨F,ρ,ds,r,q,λv F1 H1 e1 p1=>k _ F1 H1 ((r.ext e1).seto ?_ ?_) e1.ff⟩
  ·obtain⟨a,vs,h1,h2,h3,h4,h5⟩:=p1
   exact⟨a,vs,h1,h3,h4,r.ex.hh.free h2,h5⟩
  ·intro j y w hj hs _ b hb hc
   obtain⟨a,vs,h1,h2,h3,h4,h5⟩:=p1
   subst h1
   simp only[feetE,List.mem_singleton] at hb
   subst hb
   obtain⟨w',hw,hr⟩:=r.ents j y hj
   rw[hs] at hw;cases hw
   rw[hr.feet_ext e1.hh] at hc
   exact (hr.feet_at hc).1 h2
theorem zv {i:Nat}{x:Str}{pos':Pos}(hN:X.N.Nodup)(hi:X.N[i]?=some x)(hx:Loc X.env.scope x)(he:DE X B e g)(hs:swapsWith e (some (.Name x pos')) pos.line X.env=pure false:=by rfl)(hf:X.fn x=true∨X.env.scope.names.lookup x=some .local:=by first | exact .inl rfl | exact .inr rfl | assumption) :
  DS X B (.Assign [.Name x pos'] e pos) (sSet i g):=zW (qA hN hi hx he hs hf) λE σ H h=>Yn h
theorem jP {i:Nat}{x:Str}{pos':Pos}(hN:X.N.Nodup)(hi:X.N[i]?=some x)(hx:Loc X.env.scope x)(he:DA X B e gl)(hs:swapsWith e (some (.Name x pos')) pos.line X.env=pure false:=by rfl)(hf:X.fn x=true∨X.env.scope.names.lookup x=some .local:=by first | exact .inl rfl | exact .inr rfl | assumption) :
  DS X B (.Assign [.Name x pos'] e pos) (sSetA i gl):=zW (qA hN hi hx he hs hf) λE σ H h=>Wd h
def sRet (g:EnvD->Option D):SD:=λρ=>(g ρ).map λd=>.ret (.val d)
def sRetA (g:EnvD->Option (List D)):SD:=λρ=>(g ρ).map λd=>.ret (.acc d)
theorem zw (he:DE X B e g):DS X B (.Return (some e) pos) (sRet g):=zW (qo he) λE σ H zz=>zz.el λF ρ fl r hg k=>by
 unfold sRet at hg
 cases q:g ρ with
 |none=>rw[q] at hg;cases hg
 |some d=>rw[q] at hg;cases hg;exact⟨F,ρ,d,r,q,λv F1 H1 e1 p1=>k v F1 H1 (r.ex.trans e1) p1⟩
theorem kN (he:DA X B e gl):DS X B (.Return (some e) pos) (sRetA gl):=zW (qo he) λE σ H zz=>zz.el λF ρ fl r hg k=>by
 unfold sRetA at hg
 cases q:gl ρ with
 |none=>rw[q] at hg;cases hg
 |some d=>
  rw[q] at hg;cases hg
  refine⟨F,ρ,d,r,q,λv F1 H1 e1 p1=>k v F1 H1 (r.ex.trans e1) ?_⟩
  obtain⟨a,vs,h1,h2,h3,h4,h5⟩:=p1
  exact⟨a,vs,h1,h3,h4,r.ex.hh.free h2,h5⟩
def sRetV (i:Nat):SD:=λρ=>match ρ[i]? with
 |some (some (.acc ds))=>some (.ret (.acc ds))
 |some (some (.val d))=>some (.ret (.val d))
 |_=>none
theorem jy (i:Nat)(h:PE X (.Name x p) (tVar i)):DS X B (.Return (some (.Name x p)) pos) (sRetV i):=zW (qo h) λE σ H zz=>zz.el λF ρ fl r hg k=>by
 unfold sRetV at hg
 split at hg
 ·rename_i ds q
  cases hg
  obtain⟨v,h1,h2⟩:=r.ents i _ q
  exact⟨v,h1,k v F H r.ex h2⟩
 ·rename_i d q
  cases hg
  obtain⟨v,h1,h2⟩:=r.ents i _ q
  exact⟨v,h1,k v F H r.ex h2⟩
 ·cases hg
def sIf (t:EnvD->Option Bool)(g1 g2:SD):SD:=λρ=>(t ρ).bind λb=>if b then g1 ρ else g2 ρ
theorem z8 {t:EnvD->Option Bool}{as bs:List Stmt}(hc:DT X B c t)(ha:DSs X B as gs1)(hb:DSs X B bs gs2):DS X B (.If c as bs pos) (sIf t gs1 gs2):=zW (uu hc ha hb) λE σ H zz=>zz.el λF ρ fl r hg k=>by
 unfold sIf at hg
 cases q:t ρ with
 |none=>rw[q] at hg;cases hg
 |some b=>
  rw[q] at hg
  refine⟨F,ρ,b,r,q,λF1 H1 e1=>?_⟩
  cases b with
  |true=>exact iteT ⟨F1,ρ,fl,r.ext e1,hg,k.mono e1.ff⟩
  |false=>exact iteF ⟨F1,ρ,fl,r.ext e1,hg,k.mono e1.ff⟩
def sNever:SD:=λ_=>none
theorem vD:DS X B st sNever:=zW KS λE σ H zz=>zz.el λF ρ fl r hg k=>by cases hg
def sExpr (g:EnvD->Option D):SD:=λρ=>(g ρ).map λ_=>.next ρ
theorem Ke (he:DE X B e g)(hs:swapsWith e none pos.line X.env=pure false:=by rfl):DS X B (.Expr e pos) (sExpr g):=zW (yy he hs) λE σ H zz=>zz.el λF ρ fl r hg k=>by
 unfold sExpr at hg
 cases q:g ρ with
 |none=>rw[q] at hg;cases hg
 |some d=>rw[q] at hg;cases hg;exact⟨F,ρ,d,r,q,λv F1 H1 e1 p1=>k σ F1 H1 (r.ext e1) e1.ff⟩
def sApp (i:Nat)(g:EnvD->Option D):SD:=λρ=>match ρ[i]? with
 |some (some (.acc ds))=>(g ρ).bind λd=>if ds.length<=TOP then some (.next (ρ.set i (some (.acc (ds++[d]))))) else none
 |_=>none
theorem vR (i:Nat){cpos:Pos}(hx:PE X (.Name x p) (tVar i))(he:DE X B e g)
  (hbase:attributeBase (.Name x p) "append" X.env (eval (.Name x p) X.env)=eval (.Name x p) X.env:=by rfl)
  (hfew:((backTo cpos (starEach [e] X.env)).all (λx=>!x.1)&&(backToKw cpos (keywordEach [] X.env)).all (λx=>x.1.isSome)
   && decide (([e]:List Expr).length+([]:List Keyword).length+(if ([]:List Keyword).isEmpty then 0 else 1) < 30))=true:=by rfl)
  (hline:(apos.endLine==cpos.line)=true:=by rfl) (hs:starEach [e] X.env=(false,eval e X.env)::starEach [] X.env:=by rfl) (hplain:(backTo cpos (starEach [] X.env)).any (·.1)=false:=by rfl)
  (hsw:swapsWith (.Call (.Attribute (.Name x p) "append" apos) [e] [] cpos) none pos.line X.env=pure false:=by rfl) :
  DS X B (.Expr (.Call (.Attribute (.Name x p) "append" apos) [e] [] cpos) pos) (sApp i g) :=
 zW (yy (uj PySem.F.plainAttrs_list PySem.F.slot_list_append PySem.F.type_list_append Wm hx (z5 he zQ hs) hbase hfew hline hs hplain) hsw) λE σ H zz=>zz.el λF ρ fl r hg k=>by
  unfold sApp at hg
  split at hg
  ·rename_i ds q
   cases q2:g ρ with
   |none=>rw[q2] at hg;cases hg
   |some d=>
    rw[q2] at hg
    have hg:(if ds.length<=TOP then some (Fl.next (ρ.set i (some (.acc (ds++[d]))))) else none)=some fl:=hg
    split at hg
    ·rename_i hl
     cases hg
     obtain⟨v,hv,a,vs,rfl,h1,h2,h3,h4⟩:=r.ents i _ q
     refine⟨.ref a,hv,.inl ⟨rfl,_,.of h1⟩,F,ρ,d,r,q2,λw F1 H1 e1 p1=>?_⟩
     have r1:=r.ext e1
     obtain⟨v',hv',a',vs',e',g1,g2,g3,g4⟩:=r1.ents i _ q
     rw[hv] at hv';cases hv';cases e'
     refine⟨a,vs',w,rfl,rfl,g1,VL (by rw[<-g4.length];exact hl),k σ F1 _ (r1.write q rfl hv g2 g3 ⟨a,_,rfl,zm,g2,g3,g4.snoc p1⟩ rfl) e1.ff⟩
    ·cases hg
  ·cases hg
def sPop (i:Nat):SD:=λρ=>match ρ[i]? with
 |some (some (.acc ds))=>if ds.isEmpty then none else some (.next (ρ.set i (some (.acc ds.dropLast))))
 |_=>none
theorem W7 {K:KW}{F:Hp}:∀ {ds:List D} {vs:List V},Rps K F ds vs->Rps K F ds.dropLast vs.dropLast:=fun {ds vs} r=>by
 rw[List.dropLast_eq_take,List.dropLast_eq_take,<-r.length]
 exact r.take _
theorem Wp (i:Nat){cpos:Pos}(hm:MtR X "list.pop" rPop) (hx:PE X (.Name x p) (tVar i))
  (hbase:attributeBase (.Name x p) "pop" X.env (eval (.Name x p) X.env)=eval (.Name x p) X.env:=by rfl) (hline:(apos.endLine==cpos.line)=true:=by rfl)
  (hsw:swapsWith (.Call (.Attribute (.Name x p) "pop" apos) [] [] cpos) none pos.line X.env=pure false:=by rfl) :
  DS X B (.Expr (.Call (.Attribute (.Name x p) "pop" apos) [] [] cpos) pos) (sPop i) :=
 zW (yy (Ub PySem.F.plainAttrs_list PySem.F.slot_list_pop PySem.F.type_list_pop hm hx hbase hline) hsw) λE σ H zz=>zz.el λF ρ fl r hg k=>by
  unfold sPop at hg
  split at hg
  ·rename_i ds q
   split at hg
   ·cases hg
   ·rename_i hl
    cases hg
    obtain⟨v,hv,a,vs,rfl,h1,h2,h3,h4⟩:=r.ents i _ q
    have hlen:0 < vs.length:=by
     rw[<-h4.length]
     cases ds with
     |nil=>simp at hl
     |cons=>simp
    have hy:vs[vs.length - 1]?=some vs[vs.length - 1]:=List.getElem?_eq_getElem (by omega)
    exact⟨.ref a,hv,.inl ⟨rfl,_,.of h1⟩,a,vs,_,rfl,rfl,h1,hy,k σ F _ (r.write q rfl hv h2 h3 ⟨a,_,rfl,zm,h2,h3,W7 h4⟩ rfl) (Same.refl _)⟩
  ·cases hg
def sPut (i:Nat)(gi g:EnvD->Option D):SD:=λρ=>match ρ[i]? with
 |some (some (.acc ds))=>(g ρ).bind λd=>((gi ρ).bind asI).bind λj=>(ixN ds.length j).map λn=>.next (ρ.set i (some (.acc (ds.set n d))))
 |_=>none
theorem KC (i:Nat){gi:EnvD->Option D}{ie:Expr}(hx:PE X (.Name x p) (tVar i))(hi:DE X B ie gi)(he:DE X B e g){tpos:Pos}
  (ha:∀v,assign (.Subscript (.Name x p) ie tpos) X.env v=(do
   let ov <-holding [v] (eval (.Name x p) X.env)
   let iv <-holding [v,ov] (eval ie X.env)
   standAt tpos
   holding [v,ov,iv] (setItem ov iv v)
   release [v,ov,iv] []):=by intro _;rfl)
  (hs:swapsWithSole [.Subscript (.Name x p) ie tpos] e pos.line X.env=pure false:=by rfl) (hw:swappedStores [.Subscript (.Name x p) ie tpos] e X.env=pure none:=by rfl)
  (h1:(assignEach [.Subscript (.Name x p) ie tpos] X.env).map (·.2)=[assign (.Subscript (.Name x p) ie tpos) X.env]:=by rfl) :
  DS X B (.Assign [.Subscript (.Name x p) ie tpos] e pos) (sPut i gi g) :=
 zW (YV he (Wy hx hi WZ ha) hs hw h1) λE σ H zz=>zz.el λF ρ fl r hg k=>by
  unfold sPut at hg
  split at hg
  ·rename_i ds q
   cases q2:g ρ with
   |none=>rw[q2] at hg;cases hg
   |some d=>
    cases q3:gi ρ with
    |none=>rw[q2,q3] at hg;cases hg
    |some di=>
     rw[q2,q3] at hg
     have hg:((asI di).bind λj=>(ixN ds.length j).map λn=>Fl.next (ρ.set i (some (.acc (ds.set n d)))))=some fl:=hg
     cases q4:asI di with
     |none=>rw[q4] at hg;cases hg
     |some j=>
      rw[q4] at hg
      have hg:((ixN ds.length j).map λn=>Fl.next (ρ.set i (some (.acc (ds.set n d)))))=some fl:=hg
      cases q5:ixN ds.length j with
      |none=>rw[q5] at hg;cases hg
      |some n=>
       rw[q5] at hg
       cases hg
       rw[kZ q4] at q3
       refine⟨F,ρ,d,r,q2,λw F1 H1 e1 p1=>?_⟩
       have r1:=r.ext e1
       obtain⟨v,hv,a,vs,rfl,g1,g2,g3,g4⟩:=r1.ents i _ q
       refine⟨.ref a,hv,F1,ρ,_,r1,q3,λu F2 H2 e2 p2=>?_⟩
       have r2:=r1.ext e2
       obtain⟨v',hv',a',vs',e',f1,f2,f3,f4⟩:=r2.ents i _ q
       rw[hv] at hv';cases hv';cases e'
       exact⟨a,vs',j,n,rfl,p2,f1,by rw[<-f4.length];exact q5,k σ F2 _ (r2.write q rfl hv f2 f3 ⟨a,_,rfl,zm,f2,f3,Rps.set (Rp.mono e2.ff p1) n f4⟩ rfl) (e1.ff.trans e2.ff)⟩
  ·cases hg
def sFldD (i:Nat)(C:Addr)(fl:Str)(g:EnvD->Option D):SD:=λρ=>match ρ[i]? with
 |some (some (.oac a dx C' fs ds))=>if C'=C/\fs.length < 900 then (g ρ).map λd=>.next (ρ.set i (some (.oac a dx C (putZ fl d fs ds).1 (putZ fl d fs ds).2))) else none
 |_=>none
theorem kj (i:Nat){C:Addr}{fl:Str}{pos':Pos}(cl:Cls X.kw C)(na:NoAttr X.kw C fl)(hx:PE X (.Name x p) (tVar i))(he:DE X B e g)(hs:swapsWith e (some (.Attribute (.Name x p) fl pos')) pos.line X.env=pure false:=by rfl) :
  DS X B (.Assign [.Attribute (.Name x p) fl pos'] e pos) (sFldD i C fl g) :=
 zW (J8 hx he hs) λE σ H zz=>zz.el λF ρ f r hg k=>by
  unfold sFldD at hg
  split at hg
  ·rename_i a dx C' fs ds q
   split at hg
   ·rename_i hc
    obtain⟨rfl,hlen⟩:=hc
    cases q2:g ρ with
    |none=>rw[q2] at hg;cases hg
    |some d=>
     rw[q2] at hg
     cases hg
     refine⟨F,ρ,d,r,q2,λw F1 H1 e1 p1=>?_⟩
     have r1:=r.ext e1
     obtain⟨v,hv,vs,rfl,g1,g2,g3,g4,g5,d1,d2,d3⟩:=r1.ents i _ q
     obtain⟨z1,z2⟩:=ug (f:=fl) (v:=w) g2
     obtain⟨z3,z4⟩:=uX (f:=fl) p1 g2 g5
     refine⟨.ref a,hv,a,C',dx,_,rfl,g1,cl,na,?_,k σ F1 _ (r1.write q rfl hv g3 g4 ⟨_,rfl,?_,?_,g3,g4,z4,by rw[zf (JI d1 g1 (by intro z;cases z))];exact d1,d2,d3⟩ rfl) e1.ff⟩
     ·have:(fs.zip vs).length<=fs.length:=by rw[List.length_zip];exact Nat.min_le_left _ _
      omega
     ·rw[zm,z1,z3]
     ·rw[z3,z2]
   ·cases hg
  ·cases hg
end
inductive Tgt where
 |name (i:Nat) | tup (is:List Nat)
def gNames:List Nat->TGs
 | []=>L2.gNil
 |i::is=>gCons (gName i) (gNames is)
def tgT (K:KW):Tgt->TG
 |.name i=>gName i
 |.tup is=>gTup K is.length (gNames is)
def yI:List Nat->List D->EnvD->EnvD
 |i::is,d::ds,ρ=>yI is ds (ρ.set i (some (.val d)))
 |_,_,ρ=>ρ
def asgD:Tgt->D->EnvD->Option EnvD
 |.name i,d,ρ=>some (ρ.set i (some (.val d)))
 |.tup is,.tup ds,ρ=>if ds.length=is.length then some (yI is ds ρ) else none
 |_,_,_=>none
inductive SetOf:List Nat->St->St->Prop
 |refl {is σ}:SetOf is σ σ
 |step {is σ σ' i v}:i∈is->SetOf is (σ.set i v) σ'->SetOf is σ σ'
def Tgt.slots:Tgt->List Nat
 |.name i=>[i]
 |.tup is=>is
theorem SetOf.pre {is:List Nat}{σ σ':St}(h:SetOf is σ σ'):∀ {σ1 cv:St},σ=σ1++cv->(∀i∈is,i < σ1.length)->∃σ1',σ1'.length=σ1.length/\σ'=σ1'++cv:=by
 induction h with
 |refl=>intro σ1 cv e _;exact⟨σ1,rfl,e⟩
 | @step σ σ' i v hi _ ih=>
  intro σ1 cv e hl
  obtain⟨s,h1,h2⟩:=ih (σ1:=σ1.set i v) (cv:=cv) (by rw[e,List.set_append_left _ _ (hl i hi)]) (λj hj=>by rw[List.length_set];exact hl j hj)
  exact⟨s,by rw[h1,List.length_set],h2⟩
theorem kE {K:KW}{B:Bs}{F H:Hp}{all:List Nat}:∀ {is:List Nat} {ds:List D} {vs:List V} {σ:St} {ρ:EnvD} {Q:St->Hp->Prop},Rep K B F σ H ρ->Rps K F ds vs->ds.length=is.length->(∀i∈is,i∈all) ->
  (∀σ',Rep K B F σ' H (yI is ds ρ)->SetOf all σ σ'->Q σ' H)->gNames is vs σ H Q
 | [],[],_,σ,ρ,Q,r,h,_,_,k=>by cases h;exact⟨rfl,k σ r .refl⟩
 | [],_::_,_,_,_,_,_,_,hl,_,_=>by simp at hl
 |_::_,[],_,_,_,_,_,_,hl,_,_=>by simp at hl
 |i::is,d::ds,_,σ,ρ,Q,r,⟨v,w,e,h,t⟩,hl,ha,k=>by
  subst e
  refine⟨v,w,rfl,?_⟩
  exact kE (r.setv h) t (by simpa using hl) (λj hj=>ha j (List.mem_cons_of_mem _ hj)) λσ' r' s'=>k σ' r' (.step (ha i List.mem_cons_self) s')
theorem uc {K:KW}{B:Bs}{F H:Hp}{t:Tgt}{d:D}{v:V}{σ:St}{ρ ρ':EnvD}{Q:St->Hp->Prop}(r:Rep K B F σ H ρ)(h:Rp K F d v)(e:asgD t d ρ=some ρ')(k:∀σ',Rep K B F σ' H ρ'->SetOf t.slots σ σ'->Q σ' H):tgT K t v σ H Q:=by
 cases t with
 |name i=>cases e;exact k _ (r.setv h) (.step (List.mem_singleton.mpr rfl) .refl)
 |tup is=>
  cases d with
  |tup ds=>
   have e:(if ds.length=is.length then some (yI is ds ρ) else none)=some ρ':=e
   split at e
   ·rename_i hl
    cases e
    obtain⟨a,vs,rfl,h1,h2⟩:=h
    exact⟨a,vs,rfl,.of (r.fh _ _ h1),by rw[<-h2.length];exact hl,kE r h2 hl (λi hi=>hi) k⟩
   ·cases e
  |_=>cases e
def Jok (K:KW)(Hb:Hp)(J:It)(F:Hp)(ds:List D):Prop:=∀F2 H2,Same F F2->Same F2 H2->Same Hb H2->∀i,
 (i < ds.length->J.go i H2/\∀x H3,J.yld i H2 x H3->∃F3 d,Ext F2 H2 F3 H3/\ds[i]?=some d/\Rp K F3 d x)/\(i=ds.length->J.stop i H2)
def lI (K:KW)(B:Bs)(hb:Hp->Hp)(g:EnvD->Option (List D)):TI:=λσ H R=>Lq K B g σ H λF ρ ds=>∀J F' H',Ext F H F' H'->Jok K (hb H') J F' ds->R J H'
def DI (X:Cx)(B:Bs)(hb:Hp->Hp)(tg iter:Expr)(g:EnvD->Option (List D)):Prop:=PI X tg iter (lI X.kw B hb g)
def pQ (K:KW)(hb:Hp->Hp):Post D:=λ_ _ F' H' d v=>Rq K F' (hb H') d v
def DQ (X:Cx)(B:Bs)(hb:Hp->Hp)(e:Expr)(g:EnvD->Option D):Prop:=PE X e (lG X.kw B (pQ X.kw hb) g)
def HbOk (B:Bs)(hb:Hp->Hp):Prop:=(∀H,Same B.H0 H->Same (hb H) H)/\∀H H',Same H H'->Same (hb H) (hb H')
theorem hb0 {B:Bs}:HbOk B (λ_=>B.H0):=⟨λ_ h=>h,λ_ _ _=>Same.refl _⟩
theorem hb1 {B:Bs}:HbOk B (λH=>H):=⟨λ_ _=>Same.refl _,λ_ _ h=>h⟩
section
variable {X:Cx}{B:Bs}{hb:Hp->Hp}{e a b c tg iter:Expr}{es:List Expr}{pos p:Pos}{g ga gb:EnvD->Option D}{gi:EnvD->Option (List D)}{gs gbd:SD}{x:Str}
theorem DE.fix (h:DE X B e g):DQ X B hb e g:=zr h λσ H Q zz=>zz.el λF ρ x r hg k=>⟨F,ρ,x,r,hg,λv F' H' e p=>k v F' H' e (.inl p)⟩
theorem DR.cur (h:DR X B e g):DQ X B (λH=>H) e g:=h
def gf (i:Nat):EnvD->Option D:=λρ=>match ρ[i]? with
 |some (some (.val d))=>some d
 |some (some (.bor ds))=>some (.lst ds)
 |_=>none
theorem jZ (i:Nat)(h:PE X (.Name x pos) (tVar i)):DQ X B (λ_=>B.H0) (.Name x pos) (gf i) :=
 zr h λσ H Q zz=>zz.el λF ρ d r hg k=>by
  unfold gf at hg
  split at hg
  ·rename_i d' e
   cases hg
   obtain⟨v,h1,h2⟩:=r.ents i _ e
   exact⟨v,h1,k v F H (.refl r.fh) (.inl h2)⟩
  ·rename_i ds e
   cases hg
   obtain⟨v,h1,a,vs,e1,e2,e5⟩:=r.ents i _ e
   exact⟨v,h1,k v F H (.refl r.fh) (.inr ⟨a,vs,ds,rfl,e1,e2,e5⟩)⟩
  ·cases hg
def itL:D->Option (List D)
 |.lst ds=>some ds
 |.scr ns=>some (ns.map D.int)
 |_=>none
theorem jf {K:KW}{F Hb:Hp}{d:D}{v:V}{ds:List D}(r:Rq K F Hb d v)(h:itL d=some ds):∃a vs,v=.ref a/\Rps K F ds vs/\∀F2 H2,Same F F2->Same F2 H2->Same Hb H2->SqL K H2 a vs:=by
 cases d with
 |lst es=>
  cases h
  rcases r with⟨a,vs,rfl,q,t⟩ | ⟨a,vs,ds',e1,rfl,q,t⟩
  ·exact⟨a,vs,rfl,t,λF2 H2 s1 s2 _=>.of (s2 _ _ (s1 _ _ q))⟩
  ·cases e1;exact⟨a,vs,rfl,t,λF2 H2 _ _ s3=>.of (s3 _ _ q)⟩
 |scr ns=>
  cases h
  obtain⟨a,rfl,q⟩:=r.one λ_ h=>by cases h
  exact⟨a,_,rfl,Rps.ints ns,λF2 H2 s1 s2 _=>s2.seq (s1.seq q)⟩
 |_=>cases h
def gIt (g:EnvD->Option D):EnvD->Option (List D):=λρ=>(g ρ).bind itL
theorem y2 (hbk:HbOk B hb)(h:DQ X B hb e g):DI X B hb tg e (gIt g) :=
 vL (WS h) λσ H R zz=>zz.el λF ρ ds r hg k=>by
  unfold gIt at hg
  cases q:g ρ with
  |none=>rw[q] at hg;cases hg
  |some d=>
   rw[q] at hg
   refine⟨F,ρ,d,r,q,λv F1 H1 e1 p1=>?_⟩
   obtain⟨a,vs,rfl,t,sq⟩:=jf p1 hg
   have r1:=r.ext e1
   refine⟨a,rfl,⟨vs,sq F1 H1 (Same.refl _) e1.fh (hbk.1 H1 r1.ex.hh)⟩,k _ F1 H1 e1 λF2 H2 s1 s2 s3 i=>⟨λhi=>?_,λhi=>?_⟩⟩
   ·have hq:=sq F2 H2 s1 s2 s3
    have hiv:i < vs.length:=by rw[<-t.length];exact hi
    have hv:vs[i]?=some vs[i]:=List.getElem?_eq_getElem hiv
    refine⟨⟨vs,_,hq,hv⟩,λx H3 hy=>?_⟩
    obtain⟨rfl,hy⟩:=hy
    obtain⟨d',hd,rd⟩:=t.get' (hy vs hq)
    exact⟨F2,d',.refl s2,hd,rd.mono s1⟩
   ·exact⟨vs,sq F2 H2 s1 s2 s3,by rw[hi,t.length];exact Nat.le_refl _⟩
def lQs (K:KW)(B:Bs)(hb:Hp->Hp)(g:EnvD->Option (List D)):TA:=λσ H Q=>
 Lq K B g σ H λF ρ ds=>∀vs F' H',Ext F H F' H'->Paired (λd v=>Rq K F' (hb H') d v) ds vs->Q vs H'
def DQs (X:Cx)(B:Bs)(hb:Hp->Hp)(es:List Expr)(g:EnvD->Option (List D)):Prop:=PA X es (lQs X.kw B hb g)
theorem kS:DQs X B hb [] gNil:=xl zQ λσ H Q zz=>zz.el λF ρ ds r hg k=>by cases hg;exact k [] F H (.refl r.fh) .nil
theorem uA (hbk:HbOk B hb)(ha:DQ X B hb e g)(hr:DQs X B hb es gi)(hs:starEach (e::es) X.env=(false,eval e X.env)::starEach es X.env:=by rfl):DQs X B hb (e::es) (gCons' g gi) :=
 xl (z5 ha hr hs) λσ H Q zz=>zz.el λF ρ ds r hg k=>by
  obtain⟨d,dr,q1,q2,q3⟩:=bind2 hg
  cases q3
  exact⟨F,ρ,d,r,q1,λv F1 H1 e1 p1=>⟨F1,ρ,dr,r.ext e1,q2,λvs F2 H2 e2 p2=>k _ F2 H2 (e1.trans e2) (.cons (p1.mono e2.ff (hbk.2 _ _ e2.hh)) p2)⟩⟩
def enumD:Nat->List D->List D
 |_,[]=>[]
 |n,d::ds=>.tup [.int n,d]::enumD (n+1) ds
theorem qp:∀(n:Nat) (ds:List D),(enumD n ds).length=ds.length
 |_,[]=>rfl
 |n,_::ds=>by simp[enumD,qp (n+1) ds]
theorem uW:∀(n:Nat) (ds:List D) (i:Nat) (d:D),ds[i]?=some d->(enumD n ds)[i]?=some (.tup [.int ((n+i:Nat):Int),d])
 |_,[],_,_,h=>by simp at h
 |n,x::ds,0,d,h=>by simp at h;subst h;simp[enumD]
 |n,x::ds,i+1,d,h=>by
  have:=uW (n+1) ds i d (by simpa using h)
  simp only[enumD,List.getElem?_cons_succ,this]
  congr 5
  omega
def gEn (gs:EnvD->Option (List D)):EnvD->Option (List D):=λρ=>(gs ρ).bind λxs=>match xs with
 | [d]=>(itL d).map (enumD 0)
 |_=>none
variable {elts:List Expr}{tk:Nat}{tpos:Pos}
theorem uK (hbk:HbOk B hb)(hg:Gl X "enumerate") (hm:X.mg "enumerate" = none) (ha:DQs X B hb [a] gi) (hs:starEach [a] X.env=[(false,eval a X.env)]:=by rfl) :
  DI X B hb (.Tuple elts tk tpos) (.Call (.Name "enumerate" p) [a] [] pos) (gEn gi) :=
 vL (Ju hg hm ha hs) λσ H R zz=>zz.el λF ρ ds r hg k=>by
  unfold gEn at hg
  cases q:gi ρ with
  |none=>rw[q] at hg;cases hg
  |some xs=>
   rw[q] at hg
   refine⟨F,ρ,xs,r,q,λvs F1 H1 e1 p1=>?_⟩
   match xs,hg,p1 with
   | [d],hg,p1=>
    obtain⟨v,rfl,rv⟩:=pair1 p1
    have hg:(itL d).map (enumD 0)=some ds:=hg
    cases q2:itL d with
    |none=>rw[q2] at hg;cases hg
    |some es=>
     rw[q2] at hg
     cases hg
     obtain⟨a,us,rfl,t,sq⟩:=jf rv q2
     have r1:=r.ext e1
     refine⟨a,rfl,⟨us,sq F1 H1 (Same.refl _) e1.fh (hbk.1 H1 r1.ex.hh)⟩,k _ F1 H1 e1 λF2 H2 s1 s2 s3 i=>⟨λhi=>?_,λhi=>?_⟩⟩
     ·rw[qp] at hi
      have hq:=sq F2 H2 s1 s2 s3
      have hiv:i < us.length:=by rw[<-t.length];exact hi
      have hv:us[i]?=some us[i]:=List.getElem?_eq_getElem hiv
      refine⟨⟨us,_,hq,hv⟩,λx H3 hy=>?_⟩
      obtain⟨T,w,nT,rfl,rfl,hy⟩:=hy
      obtain⟨d',hd,rd⟩:=t.get' (hy us hq)
      refine⟨upd F2 T (.tup [.int i,w]),_,.newF s2 nT,uW 0 es i d' hd,⟨T,_,rfl,zm,_,_,rfl,?_,_,_,rfl,(rd.mono s1).mono (ya (s2.free nT)),rfl⟩⟩
      show V.int i=V.int ((0+i:Nat):Int)
      rw[Nat.zero_add]
     ·exact⟨us,sq F2 H2 s1 s2 s3,by rw[hi,qp,t.length];exact Nat.le_refl _⟩
def rngD (lo:Int):Nat->List D
 |0=>[]
 |n+1=>.int lo::rngD (lo+1) n
theorem jM:∀(lo:Int) (n:Nat),(rngD lo n).length=n
 |_,0=>rfl
 |lo,n+1=>by simp[rngD,jM (lo+1) n]
theorem kR:∀(lo:Int) (n i:Nat),i < n->(rngD lo n)[i]?=some (.int (lo+i))
 |_,0,_,h=>by omega
 |lo,n+1,0,_=>by simp[rngD]
 |lo,n+1,i+1,h=>by
  have:=kR (lo+1) n i (by omega)
  simp only[rngD,List.getElem?_cons_succ,this]
  congr 2
  omega
def BIG:Int:=1000000000000
def gR1 (gs:EnvD->Option (List D)):EnvD->Option (List D):=λρ=>(gs ρ).bind λxs=>match xs with
 | [.int j]=>if -BIG<=j/\j<=BIG then some (rngD 0 j.toNat) else none
 |_=>none
theorem Q6 {K:KW}{Hb F:Hp}(lo:Int)(n:Nat):Jok K Hb (Itr lo n) F (rngD lo n):=λF2 H2 s1 s2 s3 i=>⟨λhi=>by
 rw[jM] at hi
 refine⟨hi,λx H3 hy=>?_⟩
 obtain⟨rfl,rfl⟩:=hy
 exact⟨F2,_,.refl s2,kR lo n i hi,rfl⟩,λhi=>by rw[jM] at hi;exact Nat.le_of_eq hi.symm⟩
theorem vM (hg:Gl X "range") (hm:X.mg "range" = none) (ha:DRs X B [a] gi) (hs:starEach [a] X.env=[(false,eval a X.env)]:=by rfl):DI X B hb tg (.Call (.Name "range" p) [a] [] pos) (gR1 gi) :=
 vL (Jo hg hm ha hs) λσ H R zz=>zz.el λF ρ ds r hg k=>by
  unfold gR1 at hg
  cases q:gi ρ with
  |none=>rw[q] at hg;cases hg
  |some xs=>
   rw[q] at hg
   refine⟨F,ρ,xs,r,q,λvs F1 H1 e1 p1=>?_⟩
   match xs,hg,p1 with
   | [.int j],hg,p1=>
    obtain⟨v,rfl,rv⟩:=pair1 p1
    cases rv.int
    have hg:(if -BIG<=j/\j<=BIG then some (rngD 0 j.toNat) else none)=some ds:=hg
    split at hg
    ·rename_i hc
     cases hg
     unfold BIG at hc
     exact⟨j,rfl,by omega,by omega,k _ F1 H1 e1 (Q6 0 _)⟩
    ·cases hg
def forD (t:Tgt)(gb:SD):List D->EnvD->Option Fl
 | [],ρ=>some (.next ρ)
 |d::ds,ρ=>(asgD t d ρ).bind λρ1=>(gb ρ1).bind λfl=>match fl with
  |.next ρ2=>forD t gb ds ρ2
  |.cont ρ2=>forD t gb ds ρ2
  |.brk ρ2=>some (.next ρ2)
  |.ret o=>some (.ret o)
def sFor (t:Tgt)(gi:EnvD->Option (List D))(gb:SD):SD:=λρ=>(gi ρ).bind λds=>forD t gb ds ρ
theorem xb {body:List Stmt}{t:Tgt}(hp:PassesOwn (model X.prog X.w) X.A X.env X.xe)(hc:X.calm=true)(hi:DI X B (λ_=>B.H0) tg iter gi)(hg:PG X tg (tgT X.kw t))(hb:DSs X B body gbd)
  (hs:∀x,foldedSetIterable iter X.env x=pure x:=by intro _;rfl):DS X B (.For tg iter body [] pos) (sFor t gi gbd) :=
 zW (KA hp hc hi hg hb hs) λE σ H zz=>zz.el λF ρ fl r hg k=>by
  unfold sFor at hg
  cases q:gi ρ with
  |none=>rw[q] at hg;cases hg
  |some ds=>
   rw[q] at hg
   have hg:forD t gbd ds ρ=some fl:=hg
   refine⟨F,ρ,ds,r,q,λJ F1 H1 e1 jok=>?_⟩
   refine⟨λi m σ H=>m=ds.length - i/\i<=ds.length/\∃F2 ρ2,Rep X.kw B F2 σ H ρ2/\Same F1 F2/\forD t gbd (ds.drop i) ρ2=some fl,⟨ds.length,rfl,Nat.zero_le _,F1,ρ,r.ext e1,Same.refl _,hg⟩,?_⟩
   rintro i m σ2 H2 ⟨rfl,hi,F2,ρ2,r2,s2,h2⟩
   obtain⟨j1,j2⟩:=jok F2 H2 s2 r2.fh r2.ex.hh i
   by_cases hlt:i < ds.length
   ·obtain⟨go,yl⟩:=j1 hlt
    refine .inr ⟨go,λσ' H'=>∃F3 ρ3,Rep X.kw B F3 σ' H' ρ3/\Same F1 F3/\forD t gbd (ds.drop (i+1)) ρ3=some fl,λσ' H' ⟨F3,ρ3,r3,s3,h3⟩=>⟨ds.length - (i+1),by omega,rfl,hlt,F3,ρ3,r3,s3,h3⟩,λx H3 hy=>?_⟩
    obtain⟨F3,d,e3,hd,rd⟩:=yl x H3 hy
    have hdd:ds.drop i=d::ds.drop (i+1):=by
     rw[List.drop_eq_getElem_cons hlt]
     congr 1
     rw[List.getElem?_eq_getElem hlt] at hd
     exact Option.some.inj hd
    rw[hdd] at h2
    have h2:((asgD t d ρ2).bind λρ1=>(gbd ρ1).bind λfl=>match fl with
     |.next ρ2=>forD t gbd (ds.drop (i+1)) ρ2
     |.cont ρ2=>forD t gbd (ds.drop (i+1)) ρ2
     |.brk ρ2=>some (.next ρ2)
     |.ret o=>some (.ret o))=some fl:=h2
    cases q1:asgD t d ρ2 with
    |none=>rw[q1] at h2;cases h2
    |some ρ3=>
     rw[q1] at h2
     refine uc (r2.ext e3) rd q1 λσ' r4 _=>?_
     cases q4:gbd ρ3 with
     |none=>rw[show (some ρ3).bind _=(gbd ρ3).bind _ from rfl,q4] at h2;cases h2
     |some f1=>
      rw[show (some ρ3).bind _=(gbd ρ3).bind _ from rfl,q4] at h2
      refine⟨F3,ρ3,f1,r4,q4,?_⟩
      cases f1 with
      |next ρ5=>exact λσ5 F5 H5 r5 s5=>⟨F5,ρ5,r5,(s2.trans e3.ff).trans s5,h2⟩
      |cont ρ5=>exact λσ5 F5 H5 r5 s5=>⟨F5,ρ5,r5,(s2.trans e3.ff).trans s5,h2⟩
      |brk ρ5=>cases h2;exact λσ5 F5 H5 r5 s5=>k σ5 F5 H5 r5 (e1.ff.trans ((s2.trans e3.ff).trans s5))
      |ret o=>cases h2;exact k
   ·have hi':i=ds.length:=by omega
    have hdd:ds.drop i=[]:=by rw[hi',List.drop_length]
    rw[hdd] at h2
    cases h2
    exact .inl ⟨j2 hi',k σ2 F2 H2 r2 (e1.ff.trans s2)⟩
def capO:Option (Option En)->Option En
 |some (some (.val d))=>some (.val d)
 |some (some (.acc ds))=>some (.bor ds)
 |some (some (.bor ds))=>some (.bor ds)
 |some (some (.dct _ kvs))=>some (.dbo kvs)
 |some (some (.dbo kvs))=>some (.dbo kvs)
 |some (some (.mbo t))=>some (.mbo t)
 |_=>none
def capE (ρ:EnvD)(cap:List (Str×Nat)):EnvD:=cap.map λp=>capO ρ[p.2]?
def compD (t:Tgt)(tc:EnvD->Option Bool)(ge:EnvD->Option D)(ρ0:EnvD):List D->Option (List D)
 | []=>some []
 |d::ds=>(asgD t d ρ0).bind λρ1=>(tc ρ1).bind λb=>if b then (ge ρ1).bind λy=>(compD t tc ge ρ0 ds).map (y::·) else compD t tc ge ρ0 ds
def gComp (own:List Str)(cap:List (Str×Nat))(t:Tgt)(tc:EnvD->Option Bool)(ge:EnvD->Option D)(gi:EnvD->Option (List D)):EnvD->Option (List D):=λρ=>
 (gi ρ).bind λds=>if ds.length<=TOP then compD t tc ge (List.replicate own.length none++capE ρ cap) ds else none
def tYes:EnvD->Option Bool:=λ_=>some true
theorem JY {K:KW}{B:Bs}{σ:St}{H:Hp}{Q:Bool->Hp->Prop}(h:lT K B tYes σ H Q):tTrue σ H Q:=by
 refine Lq.el h λF ρ b r hg k=>?_
 cases hg
 exact k F H (.refl r.fh)
theorem J4 {X:Cx}{ifs:List Expr}{t t':TT}(h:PIfs X ifs t)(k:∀σ H Q,t' σ H Q->t σ H Q):PIfs X ifs t':=λpins s σ H Q I q=>h pins s σ H Q I (k σ H Q q)
def DIfs (X:Cx)(B:Bs)(ifs:List Expr)(g:EnvD->Option Bool):Prop:=PIfs X ifs (lT X.kw B g)
theorem yC:DIfs X B [] tYes:=J4 Kr λσ H Q h=>JY h
theorem Qa {tc:EnvD->Option Bool}(h:DT X B c tc):DIfs X B [c] tc:=Vk h
theorem Jv {K:KW}{B:Bs}{F F1 H H1:Hp}{σ σ1:St}{ρ:EnvD}{own:List Str}{cap:List (Str×Nat)}(r:Rep K B F σ H ρ)(e:Ext F H F1 H1){F2 H2:Hp}(e2:Ext F1 H1 F2 H2)(hl:σ1.length=own.length) :
  Rep K ⟨F1,H1⟩ F2 (σ1++cap.map λp=>(σ[p.2]?).getD none) H2 (List.replicate own.length none++capE ρ cap):=by
 have noown:∀i y,(List.replicate own.length none++capE ρ cap)[i]?=some (some y)->∃p,cap[i - own.length]?=some p/\own.length<=i/\((∃d,y=.val d/\ρ[p.2]?=some (some (.val d)))∨(∃ds,y=.bor ds/\ρ[p.2]?=some (some (.acc ds)))∨(∃ds,y=.bor ds/\ρ[p.2]?=some (some (.bor ds)))∨(∃kvs,y=.dbo kvs/\∃oa,ρ[p.2]?=some (some (.dct oa kvs)))∨(∃kvs,y=.dbo kvs/\ρ[p.2]?=some (some (.dbo kvs)))∨∃t,y=.mbo t/\ρ[p.2]?=some (some (.mbo t))):=by
  intro i y h
  by_cases hi:i < own.length
  ·rw[List.getElem?_append_left (by simpa using hi),List.getElem?_replicate,if_pos hi] at h
   cases h
  ·rw[List.getElem?_append_right (by simpa using hi),List.length_replicate] at h
   unfold capE at h
   rw[List.getElem?_map] at h
   cases q:cap[i - own.length]? with
   |none=>rw[q] at h;cases h
   |some p=>
    rw[q] at h
    replace h:capO ρ[p.2]?=some y:=Option.some.inj h
    refine⟨p,rfl,by omega,?_⟩
    unfold capO at h
    split at h
    ·rename_i d q2;cases h;exact .inl ⟨d,rfl,q2⟩
    ·rename_i ds q2;cases h;exact .inr (.inl ⟨ds,rfl,q2⟩)
    ·rename_i ds q2;cases h;exact .inr (.inr (.inl ⟨ds,rfl,q2⟩))
    ·rename_i oa ds q2;cases h;exact .inr (.inr (.inr (.inl ⟨ds,rfl,oa,q2⟩)))
    ·rename_i ds q2;cases h;exact .inr (.inr (.inr (.inr (.inl ⟨ds,rfl,q2⟩))))
    ·rename_i t q2;cases h;exact .inr (.inr (.inr (.inr (.inr ⟨t,rfl,q2⟩))))
    ·cases h
 refine⟨e2,by simp[capE,hl],λi y h=>?_,λi j y z v w h1 h2 _ _ _ a ha _=>?_⟩
 ·obtain⟨p,hp,hi,hy⟩:=noown i y h
  have slot:∀v,σ[p.2]?=some (some v)->(σ1++cap.map λp=>(σ[p.2]?).getD none)[i]?=some (some v):=λv hv=>by
   rw[List.getElem?_append_right (by rw[hl];exact hi),hl,List.getElem?_map,hp]
   show some ((σ[p.2]?).getD none)=_
   rw[hv];rfl
  rcases hy with⟨d,rfl,q⟩ | ⟨ds,rfl,q⟩ | ⟨ds,rfl,q⟩ | ⟨ds,rfl,oa,q⟩ | ⟨ds,rfl,q⟩ | ⟨t,rfl,q⟩
  ·obtain⟨v,hv,h2⟩:=r.ents _ _ q
   exact⟨v,slot v hv,Rp.mono (e.ff.trans e2.ff) h2⟩
  ·obtain⟨v,hv,a,vs,e1,g1,g2,g3,g4⟩:=r.ents _ _ q
   exact⟨v,slot v hv,a,vs,e1,e.hh _ _ g1,g4.mono (e.ff.trans e2.ff)⟩
  ·obtain⟨v,hv,a,vs,e1,g1,g4⟩:=r.ents _ _ q
   exact⟨v,slot v hv,a,vs,e1,e.hh _ _ (r.ex.hh _ _ g1),g4.mono (e.ff.trans e2.ff)⟩
  ·obtain⟨v,hv,a,ob,vs,e1,g1,g2,g3,g4,g5⟩:=r.ents _ _ q
   exact⟨v,slot v hv,a,ob,vs,e1,e.hh _ _ g1,g4.mono (e.ff.trans e2.ff)⟩
  ·obtain⟨v,hv,a,ob,vs,e1,g1,g4⟩:=r.ents _ _ q
   exact⟨v,slot v hv,a,ob,vs,e1,e.hh _ _ (r.ex.hh _ _ g1),g4.mono (e.ff.trans e2.ff)⟩
  ·obtain⟨v,hv,h2⟩:=r.ents _ _ q
   exact⟨v,slot v hv,RepM.ext (e.ff.trans e2.ff) (r.ex.hh.trans e.hh) h2⟩
 ·obtain⟨p,_,_,hy⟩:=noown i y h1
  rcases hy with⟨d,rfl,q⟩ | ⟨ds,rfl,q⟩ | ⟨ds,rfl,q⟩ | ⟨ds,rfl,oa,q⟩ | ⟨ds,rfl,q⟩ | ⟨t,rfl,q⟩<;>cases ha
theorem Zq {own:List Str}{cap:List (Str×Nat)}{t:Tgt}{tc:EnvD->Option Bool}{ge:EnvD->Option D}{gi:EnvD->Option (List D)}(ht:∀i∈t.slots,i < own.length) :
  ∀σ H Q,lG X.kw B (pA X.kw) (gComp own cap t tc ge gi) σ H Q->tComp (lI X.kw B (λH=>H) gi) own cap (tgT X.kw t) (λσ H Q=>∃B',lT X.kw B' tc σ H Q) (λσ H Q=>∃B',lG X.kw B' (pE X.kw) ge σ H Q) σ H Q:=by
 intro σ H Q ⟨F,ρ,out,r,hg,k⟩
 unfold gComp at hg
 cases q:gi ρ with
 |none=>rw[q] at hg;cases hg
 |some ds=>
  rw[q] at hg
  have hg:(if ds.length<=TOP then compD t tc ge (List.replicate own.length none++capE ρ cap) ds else none)=some out:=hg
  split at hg
  ·rename_i htop
   refine⟨F,ρ,ds,r,q,λJ F1 H1 e1 jok=>?_⟩
   refine⟨λi m ys H2=>m=ds.length - i/\i<=ds.length/\∃F2 o1 o2,Ext F1 H1 F2 H2/\Rps X.kw F2 o1 ys/\o1.length<=i/\compD t tc ge (List.replicate own.length none++capE ρ cap) (ds.drop i)=some o2/\out=o1++o2,
    ⟨ds.length,rfl,Nat.zero_le _,F1,[],out,.refl e1.fh,rfl,Nat.le_refl _,hg,rfl⟩,?_⟩
   rintro i m ys H2 ⟨rfl,hi,F2,o1,o2,e2,ry,hl1,h2,rfl⟩
   refine⟨yF (by rw[<-ry.length];omega),?_⟩
   obtain⟨j1,j2⟩:=jok F2 H2 e2.ff e2.fh e2.hh i
   by_cases hlt:i < ds.length
   ·obtain⟨go,yl⟩:=j1 hlt
    refine .inr ⟨go,λys' H'=>∃F3 p1 p2,Ext F1 H1 F3 H'/\Rps X.kw F3 p1 ys'/\p1.length<=i+1/\compD t tc ge (List.replicate own.length none++capE ρ cap) (ds.drop (i+1))=some p2/\o1++o2=p1++p2,λys' H' ⟨F3,p1,p2,e3,r3,l3,h3,eo⟩=>⟨ds.length - (i+1),by omega,rfl,hlt,F3,p1,p2,e3,r3,l3,h3,eo⟩,λx H3 hy σ1 hσ=>?_⟩
    obtain⟨F3,d,e3,hd,rd⟩:=yl x H3 hy
    have hdd:ds.drop i=d::ds.drop (i+1):=by
     rw[List.drop_eq_getElem_cons hlt]
     congr 1
     rw[List.getElem?_eq_getElem hlt] at hd
     exact Option.some.inj hd
    rw[hdd] at h2
    simp only[compD] at h2
    cases q1:asgD t d (List.replicate own.length none++capE ρ cap) with
    |none=>rw[q1] at h2;cases h2
    |some ρ1=>
     rw[q1] at h2
     have e13:=e2.trans e3
     refine uc (Jv (own:=own) (cap:=cap) r e1 e13 hσ) rd q1 λσ' r4 so=>⟨?_,?_⟩
     ·obtain⟨σ1',l1,e4⟩:=so.pre (σ1:=σ1) rfl (λj hj=>by rw[hσ];exact ht j hj)
      exact⟨σ1',by rw[l1,hσ],e4⟩
     ·have h2:((tc ρ1).bind λb=>if b then (ge ρ1).bind λy=>(compD t tc ge (List.replicate own.length none++capE ρ cap) (ds.drop (i+1))).map (y::·) else compD t tc ge (List.replicate own.length none++capE ρ cap) (ds.drop (i+1)))=some o2:=h2
      cases q2:tc ρ1 with
      |none=>rw[q2] at h2;cases h2
      |some bb=>
       rw[q2] at h2
       refine⟨⟨F1,H1⟩,F3,ρ1,bb,r4,q2,λF5 H5 e5=>?_⟩
       cases bb with
       |false=>exact iteF ⟨F5,o1,o2,e13.trans e5,ry.mono (e3.ff.trans e5.ff),by omega,h2,rfl⟩
       |true=>
        have h2:((ge ρ1).bind λy=>(compD t tc ge (List.replicate own.length none++capE ρ cap) (ds.drop (i+1))).map (y::·))=some o2:=h2
        cases q3:ge ρ1 with
        |none=>rw[q3] at h2;cases h2
        |some y=>
         rw[q3] at h2
         have h2:(compD t tc ge (List.replicate own.length none++capE ρ cap) (ds.drop (i+1))).map (y::·)=some o2:=h2
         cases q4:compD t tc ge (List.replicate own.length none++capE ρ cap) (ds.drop (i+1)) with
         |none=>rw[q4] at h2;cases h2
         |some p2=>
          rw[q4] at h2
          cases h2
          refine iteT ⟨⟨F1,H1⟩,F5,ρ1,y,r4.ext e5,q3,λv F6 H6 e6 p6=>?_⟩
          exact⟨F6,o1++[y],p2,e13.trans (e5.trans e6),(ry.mono (e3.ff.trans (e5.ff.trans e6.ff))).snoc p6,by simp;omega,rfl,by simp⟩
   ·have hi':i=ds.length:=by omega
    have hdd:ds.drop i=[]:=by rw[hi',List.drop_length]
    rw[hdd] at h2
    cases h2
    refine .inl ⟨j2 hi',λD hD=>?_⟩
    have e:=e1.trans e2
    exact k _ F2 _ (e.trans (.new e.fh hD)) ⟨D,ys,rfl,e.hh.free hD,zm,e.fh.free hD,by simpa using ry⟩
  ·cases hg
theorem yD {elt:Expr}{ifs:List Expr}{scope:Scope}{own:List Str}{cap:List (Str×Nat)}{t:Tgt}{tc:EnvD->Option Bool}{ge:EnvD->Option D}(hc:X.calm=true)(S:CompScope X scope own cap)(hi:DI X B (λH=>H) tg iter gi)(ht:∀i∈t.slots,i < own.length)
  (hin:∀(B':Bs) C s₀ H₀ fp pn,PG (cxc X scope C (own++cap.map (·.1)) s₀ H₀ fp pn) tg (tgT X.kw t)/\DIfs (cxc X scope C (own++cap.map (·.1)) s₀ H₀ fp pn) B' ifs tc/\DE (cxc X scope C (own++cap.map (·.1)) s₀ H₀ fp pn) B' elt ge)
  (hs:∀x,foldedSetIterable iter X.env x=pure x:=by intro _;rfl) :
  DA X B (.ListComp elt [⟨tg,iter,ifs,0⟩] scope pos) (gComp own cap t tc ge gi):=by
 exact zr (Kz (tc:=λσ H Q=>∃B',lT X.kw B' tc σ H Q) (te:=λσ H Q=>∃B',lG X.kw B' (pE X.kw) ge σ H Q) hc S hi (λC s₀ H₀ fp pn=>⟨(hin ⟨H₀,H₀⟩ C s₀ H₀ fp pn).1,λpins s σ H Q I ⟨B',q⟩=>(hin B' C s₀ H₀ fp pn).2.1 pins s σ H Q I q,λpins s σ H Q I ⟨B',q⟩=>(hin B' C s₀ H₀ fp pn).2.2 pins s σ H Q I q⟩) hs) (Zq ht)
end
def stE (N:List Str)(xs:List (Option En)):EnvD:=xs++List.replicate (N.length - xs.length) none
def outO:Option Fl->Option En
 |some (.next _)=>some (.val .non)
 |some (.ret o)=>some o
 |_=>none
def mir (N:List Str)(g:SD):List En->Option En:=λxs=>outO (g (stE N (xs.map some)))
section
variable {P:Program}{w:World}{K:PySem.W.Frag}{mg:Str->Option Value}{base:Heap}
theorem vx {α β:Type}{R:α->β->Prop}:∀ {l:List α} {r:List β} {i:Nat} {x:α},Paired R l r->l[i]?=some x->∃y,r[i]?=some y/\R x y
 |_,_,_,_,.nil,e=>by simp at e
 |_,_,0,_,.cons r _,e=>by simp at e;subst e;exact⟨_,rfl,r⟩
 |_,_,i+1,x,.cons _ t,e=>by
  obtain⟨u,h1,h2⟩:=vx (i:=i) t (by simpa using e)
  exact⟨u,by simpa using h1,h2⟩
theorem q9 {F H:Hp}{N ps:List Str}{xs:List En}{vs:List V}(fh:Same F H)(hp:Paired (λx v=>ArgE ⟨K,w⟩ F H x v) xs vs):Rep ⟨K,w⟩ ⟨F,H⟩ F (L2.start N vs) H (stE N (xs.map some)):=by
 have hl:=vf hp
 have at':∀(i:Nat) y,(stE N (xs.map some))[i]?=some (some y)->xs[i]?=some y:=λi y h=>by
  unfold stE at h
  by_cases hi:i < xs.length
  ·rw[List.getElem?_append_left (by simpa using hi),List.getElem?_map] at h
   cases q:xs[i]? with
   |none=>rw[q] at h;cases h
   |some z=>rw[q] at h;cases h;rfl
  ·rw[List.getElem?_append_right (by simpa using hi),List.getElem?_replicate] at h
   split at h<;>cases h
 refine⟨.refl fh,?_,λi y h=>?_,λi j y z v w h1 h2 _ _ _ a ha _=>?_⟩
 ·unfold L2.start stE
  simp[hl]
 ·have hx:=at' i y h
  obtain⟨v,hv,r⟩:=vx hp hx
  refine⟨v,?_,?_⟩
  ·unfold L2.start
   rw[List.getElem?_append_left (by simpa using (List.getElem?_eq_some_iff.mp hv).1),List.getElem?_map,hv];rfl
  ·cases y with
   |val d=>exact r
   |bor ds=>exact r
   |acc ds=>exact r.elim
   |oac a dx C fs ds=>exact r.elim
   |obw C fs ds=>exact r.elim
   |tre t=>exact r.elim
   |dct oa kvs=>exact r.elim
   |dbo kvs=>exact r
   |exn a=>exact r
   |mbo t=>exact r
 ·have hx:=at' i y h1
  obtain⟨u,_,r⟩:=vx hp hx
  cases y with
  |val d=>cases ha
  |bor ds=>cases ha
  |acc ds=>exact r.elim
  |oac a dx C fs ds=>exact r.elim
  |obw C fs ds=>exact r.elim
  |tre t=>exact r.elim
  |dct oa kvs=>exact r.elim
  |dbo kvs=>cases ha
  |exn a=>cases ha
  |mbo t=>cases ha
theorem zD {x qual:Str}{st:Stmt}{f:Addr}{fd:FuncData}{N ps:List Str}{k:Nat}{g:SD}(F:Fun K x qual st f fd)(S:FnScope N ps (ze st))
  (hb:∀(cdv:Value) (A:Around) (outer:List Env) (s:Shared) (H:Hp) (E:XK) (B:Bs),Room k (A.deeper (envOfC qual (ze st) s.heap.objs.size f cdv)) ->
   DSs (cxOf CX0 P w K mg base N qual (ze st) f cdv A outer s H E).nox B (zq st) g) :
  FnOk P w K mg base CX0 (k+1) f fd ps (pSp ⟨K,w⟩ ps.length (len? ps.length (mir N g))):=by
 refine F.ok S (λvs H Q E h=>?_) (λcdv A outer s H vs Q E hr h=>?_)
 ·obtain⟨F,xs,o,_,hl,hp,_⟩:=h
  rw[<-vf hp];exact hl
 ·obtain⟨F0,xs,o,fh,hl,hp,hm,k⟩:=h
  refine⟨_,hb cdv A outer s H E ⟨F0,H⟩ hr,?_⟩
  have hm:mir N g xs=some o:=by
   unfold len? at hm
   rw[if_pos hl] at hm
   exact hm
  unfold mir at hm
  cases q:g (stE N (xs.map some)) with
  |none=>rw[q] at hm;cases hm
  |some fl=>
   rw[q] at hm
   refine⟨F0,_,fl,q9 (ps:=ps) fh hp,q,?_⟩
   cases fl with
   |next ρ=>cases hm;exact λσ' F' H' r s=>k .non F' H' r.ex rfl
   |ret o'=>cases hm;exact λv F' H' e p=>k v F' H' e p
   |brk ρ=>cases hm
   |cont ρ=>cases hm
def outJ (x dx C:Addr):Option (Option En)->Option (List Str×List D)
 |some (some (.oac a d C' fs ds))=>if a=x/\d=dx/\C'=C then some (fs,ds) else none
 |_=>none
def outI (x dx C:Addr):Option Fl->Option (List Str×List D)
 |some (.next ρ)=>outJ x dx C ρ[0]?
 |_=>none
def mirI (C:Addr)(N:List Str)(g:SD)(x dx:Addr):List En->Option (List Str×List D):=λxs=>outI x dx C (g (stE N (some (.oac x dx C [] [])::xs.map some)))
theorem Vp {x qual:Str}{st:Stmt}{f C:Addr}{fd:FuncData}{N ps:List Str}{k n:Nat}{g:SD}(F:Fun K x qual st f fd)(S:FnScope N ps (ze st))(hn:ps.length=n+1)
  (hb:∀(cdv:Value) (A:Around) (outer:List Env) (s:Shared) (H:Hp) (E:XK) (B:Bs),Room k (A.deeper (envOfC qual (ze st) s.heap.objs.size f cdv)) ->
   DSs (cxOf CX0 P w K mg base N qual (ze st) f cdv A outer s H E).nox B (zq st) g) :
  FnOk P w K mg base CX0 (k+1) f fd ps (iSp ⟨K,w⟩ C n (mirI C N g)):=by
 refine F.ok S (λvs H Q E h=>?_) (λcdv A outer s H vs Q E hr h=>?_)
 ·obtain⟨F,H1,xs,a,dx,vs',fs,ds,rfl,_,_,_,_,_,hl,hp,_⟩:=h
  rw[List.length_cons,<-vf hp,hl,hn]
 ·obtain⟨F0,H1,xs,a,dx,vs',fs,ds,rfl,nx,ndx,nex,rfl,fh,hl,hp,hm,k⟩:=h
  refine⟨_,hb cdv A outer s _ E ⟨F0,H1⟩ hr,?_⟩
  have hx1:(upd H1 dx (.own a)) a=none:=by rw[zf (Ne.symm nex)];exact nx
  have sH:Same H1 (upd (upd H1 dx (.own a)) a (.ins C dx [])):=(ya ndx).trans (ya hx1)
  have r0:=q9 (N:=N) (ps:=ps) fh hp
  have hla:=vf hp
  have R:Rep ⟨K,w⟩ ⟨F0,H1⟩ F0 (L2.start N (.ref a::vs')) (upd (upd H1 dx (.own a)) a (.ins C dx [])) (stE N (some (.oac a dx C [] [])::xs.map some)):=by
   have sl:∀i:Nat,(L2.start N (.ref a::vs'))[i+1]?=none∨∀v,(L2.start N (.ref a::vs'))[i+1]?=some (some v)->vs'[i]?=some v:=λi=>.inr λv h=>by
    unfold L2.start at h
    by_cases hi:i < vs'.length
    ·rw[List.getElem?_append_left (by simpa using hi),List.getElem?_map,List.getElem?_cons_succ] at h
     cases q:vs'[i]? with
     |none=>rw[q] at h;cases h
     |some z=>rw[q] at h;cases h;rfl
    ·rw[List.getElem?_append_right (by simpa using hi),List.getElem?_replicate] at h
     split at h<;>cases h
   have at':∀(i:Nat) y,(stE N (some (.oac a dx C [] [])::xs.map some))[i]?=some (some y)->(i=0/\y=.oac a dx C [] [])∨∃j,i=j+1/\xs[j]?=some y:=λi y h=>by
    unfold stE at h
    cases i with
    |zero=>simp at h;exact .inl ⟨rfl,h.symm⟩
    |succ j=>
     refine .inr ⟨j,rfl,?_⟩
     by_cases hi:j < xs.length
     ·rw[List.getElem?_append_left (by simpa using hi),List.getElem?_cons_succ,List.getElem?_map] at h
      cases q:xs[j]? with
      |none=>rw[q] at h;cases h
      |some z=>rw[q] at h;cases h;rfl
     ·rw[List.getElem?_append_right (by simpa using hi),List.getElem?_replicate] at h
      split at h<;>cases h
   refine⟨⟨Same.refl _,sH,fh.trans sH,λ_ h=>.inl h⟩,?_,λi y h=>?_,λi j y z v w h1 h2 _ _ hne b hb hc=>?_⟩
   ·unfold L2.start stE
    simp[hla]
   ·rcases at' i y h with⟨rfl,rfl⟩ | ⟨j,rfl,hx⟩
    ·exact⟨.ref a,by simp[L2.start],[],rfl,zm,rfl,fh.free nx,nx,rfl,by rw[zf nex];exact zm,fh.free ndx,ndx⟩
    ·obtain⟨v,hv,r⟩:=vx hp hx
     refine⟨v,?_,?_⟩
     ·unfold L2.start
      rw[List.getElem?_append_left (by simpa using (List.getElem?_eq_some_iff.mp hv).1),List.getElem?_map,List.getElem?_cons_succ,hv];rfl
     ·cases y with
      |val d=>exact r
      |bor ds=>exact r
      |acc ds=>exact r.elim
      |oac a dx C fs ds=>exact r.elim
      |obw C fs ds=>exact r.elim
      |tre t=>exact r.elim
      |dct oa kvs=>exact r.elim
      |dbo kvs=>exact r
      |exn a=>exact r
      |mbo t=>exact r
   ·have own0:∀(i:Nat) y v b,(stE N (some (.oac a dx C [] [])::xs.map some))[i]?=some (some y)->b∈feetE (upd (upd H1 dx (.own a)) a (.ins C dx [])) y v->i=0:=λi y v b h o=>by
     rcases at' i y h with⟨rfl,_⟩ | ⟨j,rfl,hx⟩
     ·rfl
     ·obtain⟨u,_,r⟩:=vx hp hx
      cases y with
      |val d=>cases o
      |bor ds=>cases o
      |acc ds=>exact r.elim
      |oac a dx C fs ds=>exact r.elim
      |obw C fs ds=>exact r.elim
      |tre t=>exact r.elim
      |dct oa kvs=>exact r.elim
      |dbo kvs=>cases o
      |exn a=>cases o
      |mbo t=>cases o
    exact hne (by rw[own0 i y v b h1 hb,own0 j z w b h2 hc])
  unfold mirI at hm
  cases q:g (stE N (some (.oac a dx C [] [])::xs.map some)) with
  |none=>rw[q] at hm;cases hm
  |some fl=>
   rw[q] at hm
   refine⟨F0,_,fl,R,q,?_⟩
   cases fl with
   |next ρ=>
    refine λσ' F' H' r s=>?_
    replace hm:outJ a dx C ρ[0]?=some (fs,ds):=hm
    unfold outJ at hm
    split at hm
    ·rename_i a' d' C' fs' ds' q0
     split at hm
     ·rename_i hc
      obtain⟨rfl,rfl,rfl⟩:=hc
      cases hm
      obtain⟨v,_,vs,rfl,h1,h2,h3,_,h5,d1,d2,_⟩:=r.ents 0 _ q0
      exact k F' H' vs r.ex h3 h1 h2 h5 ⟨d1,d2⟩
     ·cases hm
    ·cases hm
   |ret o'=>cases hm
   |brk ρ=>cases hm
   |cont ρ=>cases hm
end
section
variable {X:Cx}{B:Bs}{e a b c o:Expr}{es:List Expr}{pos p apos:Pos}{g:EnvD->Option D}{gxs:EnvD->Option (List En)}{x mm:Str}{C:Addr}{n k:Nat}{m:List En->Option En}
def fNeg:D->Option D
 |.int i=>some (.int (-i))
 |_=>none
def gNeg (g:EnvD->Option D):EnvD->Option D:=λρ=>(g ρ).bind fNeg
theorem xW (ha:DR X B a g):DE X B (.UnaryOp .USub a pos) (gNeg g) :=
 zr (Qx QK ha) λσ H Q zz=>zz.el λF ρ d r hg k=>by
  unfold gNeg at hg
  cases q:g ρ with
  |none=>rw[q] at hg;cases hg
  |some y=>
   rw[q] at hg
   cases y with
   |int i=>cases hg;exact⟨F,ρ,_,r,q,λv F1 H1 e1 p1=>⟨i,p1.int,k _ F1 H1 e1 rfl⟩⟩
   |_=>cases hg
structure Fx (P:Program)(w:World)(K:PySem.W.Frag)(mg:Str->Option Value)(base:Heap)(x:Str)(k n:Nat)(m:List En->Option En):Prop where
 ex:∃f fd ps,FnOk P w K mg base CX0 k f fd ps (pSp ⟨K,w⟩ n (len? n m))/\mg x=some (.ref f)/\keepIn K (.ref f)=true/\Binds K fd ps []
structure Mx (P:Program)(w:World)(K:PySem.W.Frag)(mg:Str->Option Value)(base:Heap)(C:Addr)(x:Str)(k n:Nat)(m:List En->Option En):Prop where
 ex:∃f fd ps,FnOk P w K mg base CX0 k f fd ps (pSp ⟨K,w⟩ n (len? n m))/\Meth K C x f/\Binds K fd ps []
structure Kx (P:Program)(w:World)(K:PySem.W.Frag)(mg:Str->Option Value)(base:Heap)(C:Addr)(x:Str)(k n:Nat)(mi:List En->Option (List Str×List D)):Prop where
 ex:∃f fd ps mi',FnOk P w K mg base CX0 k f fd ps (iSp ⟨K,w⟩ C n mi')/\Mk K C f/\mg x=some (.ref C)/\Binds K fd ps []/\∀a dx xs,mi' a dx xs=mi xs
theorem zo (h:Fx X.prog X.w X.kw X.mg X.base x k n m)(hr:Room k X.A)(hg:Gl X x)(ha:DNs X B (e::es) gxs)(hdb:(x==("__debug__" : Str))=false:=by decide +kernel)
  (he:starEach (e::es) X.env=(false,eval e X.env)::starEach es X.env:=by rfl) (hpl:(backTo pos (starEach es X.env)).any (·.1)=false:=by rfl):DE X B (.Call (.Name x p) (e::es) [] pos) (gCall (len? n m) frzO gxs):=by
 obtain⟨f,fd,ps,F,hm,hk,hb⟩:=h.ex
 exact Vn F hr hg hm hk hb ha hdb he hpl
theorem vz (h:Fx X.prog X.w X.kw X.mg X.base x k n m)(hr:Room k X.A)(hg:Gl X x)(ha:DNs X B (e::es) gxs)(hdb:(x==("__debug__" : Str))=false:=by decide +kernel)
  (he:starEach (e::es) X.env=(false,eval e X.env)::starEach es X.env:=by rfl) (hpl:(backTo pos (starEach es X.env)).any (·.1)=false:=by rfl):DA X B (.Call (.Name x p) (e::es) [] pos) (gCall (len? n m) accO gxs):=by
 obtain⟨f,fd,ps,F,hm,hk,hb⟩:=h.ex
 exact QH F hr hg hm hk hb ha hdb he hpl
theorem Vv {pl:Sem Bool}(ho:DE X B o g)(cl:Cls X.kw C)(h:Mx X.prog X.w X.kw X.mg X.base C mm k n m)(hr:Room k X.A)(ha:DNs X B (e::es) gxs)
  (hst:starEach (e::es) X.env=(false,eval e X.env)::starEach es X.env:=by rfl) (hpl:(backTo pos (starEach es X.env)).any (·.1)=false:=by rfl)
  (ht:eval (.Call (.Attribute o mm apos) (e::es) [] pos) X.env=(do
   let ov <-eval o X.env
   standAt apos.atName
   let (f,first) <-holding [ov] (getMethod ov mm pl)
   callWith pos f first (backTo pos (starEach (e::es) X.env)) (backToKw pos (keywordEach [] X.env))):=by rfl) :
  DE X B (.Call (.Attribute o mm apos) (e::es) [] pos) (gMeth C mm (len? n m) frzO g gxs):=by
 obtain⟨f,fd,ps,F,hm,hb⟩:=h.ex
 exact VF ho cl hm F hr hb ha hst hpl ht
theorem ZE {pl:Sem Bool}(ho:DE X B o g)(cl:Cls X.kw C)(h:Mx X.prog X.w X.kw X.mg X.base C mm k n m)(hr:Room k X.A)
  (ht:eval (.Call (.Attribute o mm apos) [] [] pos) X.env=(do
   let ov <-eval o X.env
   standAt apos.atName
   let (f,first) <-holding [ov] (getMethod ov mm pl)
   callWith pos f first (backTo pos (starEach [] X.env)) (backToKw pos (keywordEach [] X.env))):=by rfl) :
  DE X B (.Call (.Attribute o mm apos) [] [] pos) (gMeth C mm (len? n m) frzO g nNil):=by
 obtain⟨f,fd,ps,F,hm,hb⟩:=h.ex
 exact J6 ho cl hm F hr hb ht
theorem Ys {mi:List En->Option (List Str×List D)}(h:Kx X.prog X.w X.kw X.mg X.base C x k n mi)(hr:Room (k+1) X.A)(hg:Gl X x)(ha:DNs X B (e::es) gxs)(hdb:(x==("__debug__" : Str))=false:=by decide +kernel)
  (he:starEach (e::es) X.env=(false,eval e X.env)::starEach es X.env:=by rfl) (hpl:(backTo pos (starEach es X.env)).any (·.1)=false:=by rfl):DE X B (.Call (.Name x p) (e::es) [] pos) (gMake C n mi gxs):=by
 obtain⟨f,fd,ps,mi',F,M,hm,hb,hmi⟩:=h.ex
 exact K1 hmi M F hr hg hm hb ha hdb he hpl
theorem yx {gs:EnvD->Option (List D)}(hg:Gl X "len") (hm:X.mg "len" = none) (ha:DRs X B [a] gs) (he:starEach [a] X.env=(false,eval a X.env)::starEach [] X.env:=by rfl) (hpl:(backTo pos (starEach [] X.env)).any (·.1)=false:=by rfl) :
  DE X B (.Call (.Name "len" p) [a] [] pos) (gB fLen gs):=uY W3 Qo hg hm (by decide +kernel) ha (by decide) (by decide) he hpl
theorem jr {gs:EnvD->Option (List D)}(hc:X.calm=true)(hg:Gl X "all") (hm:X.mg "all" = none) (ha:DRs X B [a] gs) (he:starEach [a] X.env=(false,eval a X.env)::starEach [] X.env:=by rfl) (hpl:(backTo pos (starEach [] X.env)).any (·.1)=false:=by rfl) :
  DE X B (.Call (.Name "all" p) [a] [] pos) (gB fAll gs):=uY (Ja hc) Qd hg hm (by decide +kernel) ha (by decide) (by decide) he hpl
theorem Ws {gs:EnvD->Option (List D)}(hg:Gl X "list") (hm:X.mg "list" = none) (ha:DRs X B [a] gs) (he:starEach [a] X.env=(false,eval a X.env)::starEach [] X.env:=by rfl) (hpl:(backTo pos (starEach [] X.env)).any (·.1)=false:=by rfl) :
  DA X B (.Call (.Name "list" p) [a] [] pos) (gB fList gs):=Jh Wq QA hg hm (by decide +kernel) ha (by decide) (by decide) he hpl
theorem kitT {K:PySem.W.Frag}(T:String)(hT:T∈["bool","int","str","list","tuple","dict"]):∀t b,subT t T=some b->kitOne K (.type t) (.type T)=some b:=by
 intro t b h
 unfold subT at h
 by_cases h1:t=T
 ·rw[if_pos h1] at h
  cases h
  subst h1
  unfold kitOne
  rw[if_pos (beq_self_eq_true _)]
 ·rw[if_neg h1] at h
  by_cases h2:t = "bool" /\ T = "int"
  ·rw[if_pos h2] at h
   cases h
   obtain⟨rfl,rfl⟩:=h2
   rfl
  ·rw[if_neg h2] at h
   by_cases h3:(t∈["NoneType","bool","int","str","list","tuple","dict"])/\(T∈["bool","int","str","list","tuple","dict"])
   ·rw[if_pos h3] at h
    cases h
    obtain⟨m1,m2⟩:=h3
    simp only[List.mem_cons,List.not_mem_nil,or_false] at m1 m2
    rcases m1 with rfl | rfl | rfl | rfl | rfl | rfl | rfl<;>rcases m2 with rfl | rfl | rfl | rfl | rfl | rfl<;>first | rfl | exact absurd rfl h1 | exact absurd ⟨rfl,rfl⟩ h2
   ·rw[if_neg h3] at h;cases h
def ckFree (sc:List (Str×NameKind))(y:Str×NameKind):Bool:=y.2 != .free||sc.lookup y.1==some .cell||sc.lookup y.1==some .free
def ckComp (names sc:List (Str×NameKind))(N:List Str)(cap:List (Str×Nat)):Bool :=
 names.all (λy=>y.2 != .cell)&&names.all (λy=>y.2 != .local||names.lookup y.1==some .local)&&names.all (ckFree sc)&&cap.all (λp=>names.lookup p.1==some .free&&N[p.2]?==some p.1)
theorem y0 {scope:Scope}{own:List Str}{cap:List (Str×Nat)}{sc:List (Str×NameKind)}{N:List Str}(hk:scope.kind=.function)(h1:X.env.scope.names=sc)(h2:X.N=N)(h:ckComp scope.names sc N cap=true):CompScope X scope own cap:=by
 subst h1 h2
 unfold ckComp at h
 simp only[Bool.and_eq_true,List.all_eq_true] at h
 obtain⟨⟨⟨a1,a2⟩,a3⟩,a4⟩:=h
 refine⟨hk,λy hy e=>?_,λy hy e=>?_,λy hy e=>?_,λp hp=>?_⟩
 ·have:=a1 y hy;rw[e] at this;cases this
 ·have:=a2 y hy;rw[e] at this;simpa using this
 ·have:=a3 y hy
  unfold ckFree at this
  rw[e] at this
  have q:List.lookup y.fst X.env.scope.names=some NameKind.cell∨List.lookup y.fst X.env.scope.names=some NameKind.free:=by simpa using this
  exact q
 ·have:=a4 p hp
  simpa using this
end
def thenB (o:Option Fl)(g:SD):Option Fl:=o.bind λfl=>match fl with | .next ρ'=>g ρ' | fl=>some fl
def loopB (o:Option Fl)(k:EnvD->Option Fl):Option Fl:=o.bind λfl=>match fl with | .next ρ2=>k ρ2 | .cont ρ2=>k ρ2 | .brk ρ2=>some (.next ρ2) | .ret o=>some (.ret o)
section
variable {ρ:EnvD}{i k n:Nat}{d x y:D}{ds es:List D}{a b j:Int}{α γ:Type}{ga gb gc' g:EnvD->Option D}{ta tb:EnvD->Option Bool}{gs:EnvD->Option (List D)}{s1 s2:SD}
@[simp]theorem GO:gc d ρ=some d:=rfl
@[simp]theorem Ri:gv i ρ=match ρ[i]? with | some (some (.val d))=>some d | _=>none:=rfl
@[simp]theorem Ue:gr i ρ=match ρ[i]? with | some (some (.val d))=>some d | some (some (.acc ds))=>some (.lst ds) | some (some (.bor ds))=>some (.lst ds) | _=>none:=rfl
@[simp]theorem Uj:gn i ρ=match ρ[i]? with | some (some (.val d))=>some (.val d) | some (some (.acc ds))=>some (.bor ds) | some (some (.bor ds))=>some (.bor ds) | some (some (.dct _ kvs))=>some (.dbo kvs) | some (some (.dbo kvs))=>some (.dbo kvs) | _=>none:=rfl
@[simp]theorem GA:gf i ρ=match ρ[i]? with | some (some (.val d))=>some d | some (some (.bor ds))=>some (.lst ds) | _=>none:=rfl
@[simp]theorem U0:gFz gs ρ=(gs ρ).map D.lst:=rfl
@[simp]theorem y8 {f:D->D->Option γ}:g2 f ga gb ρ=(ga ρ).bind λx=>(gb ρ).bind λy=>f x y:=rfl
@[simp]theorem Ro {f f':D->D->Option D}:g3 f f' ga gb gc' ρ=(ga ρ).bind λx=>(gb ρ).bind λy=>((f x y).bind asB).bind λk=>if k then (gc' ρ).bind λz=>f' y z else some (.bl false):=rfl
@[simp]theorem GB:gt g ρ=(g ρ).bind truD:=rfl
@[simp]theorem UZ:gb' g ρ=(g ρ).bind asB:=rfl
@[simp]theorem R4:gAnd ta tb ρ=(ta ρ).bind λx=>if x then tb ρ else some false:=rfl
@[simp]theorem U4:gOr ta tb ρ=(ta ρ).bind λx=>if x then some true else tb ρ:=rfl
@[simp]theorem Gp:gNot ta ρ=(ta ρ).map λx=>!x:=rfl
@[simp]theorem Gh:gAndV ga gb ρ=((ga ρ).bind asB).bind λx=>if x then gb ρ else some (.bl false):=rfl
@[simp]theorem GE:gNotV ga ρ=((ga ρ).bind asB).map λx=>.bl (!x):=rfl
@[simp]theorem UM:gIf ta ga gb ρ=(ta ρ).bind λx=>if x then ga ρ else gb ρ:=rfl
@[simp]theorem GI:gNil ρ=some []:=rfl
@[simp]theorem Us:gCons' g gs ρ=(g ρ).bind λd=>(gs ρ).bind λds=>some (d::ds):=rfl
@[simp]theorem UA:gTup' gs ρ=(gs ρ).bind λds=>if ds.length<=TOP then some (.tup ds) else none:=rfl
@[simp]theorem GD:gLst gs ρ=(gs ρ).bind λds=>if ds.length<=TOP then some ds else none:=rfl
@[simp]theorem Rk {f:List D->Option γ}:gB f gs ρ=(gs ρ).bind f:=rfl
@[simp]theorem R5:nNil ρ=some []:=rfl
@[simp]theorem R8 {g:EnvD->Option En}{gs:EnvD->Option (List En)}:nCons g gs ρ=(g ρ).bind λd=>(gs ρ).bind λds=>some (d::ds):=rfl
@[simp]theorem Uo:gVal g ρ=(g ρ).map En.val:=rfl
@[simp]theorem UG {T:String}:gIs T g ρ=(g ρ).bind λd=>(tyD d).bind λt=>(subT t T).map D.bl:=rfl
@[simp]theorem Rh:gNone ρ=some none:=rfl
@[simp]theorem GM:gSome g ρ=(g ρ).bind λd=>(asI d).map some:=rfl
@[simp]theorem GZ:gNeg g ρ=(g ρ).bind fNeg:=rfl
@[simp]theorem Gg:gIt g ρ=(g ρ).bind itL:=rfl
@[simp]theorem GL {gl gh:EnvD->Option (Option Int)}:gSl g gl gh ρ=(g ρ).bind λd=>(gl ρ).bind λl=>(gh ρ).bind λh=>match d with | .lst ds=>some (cutD ds l h) | _=>none:=rfl
@[simp]theorem U1:fNeg (.int a)=some (.int (-a)):=rfl
@[simp]theorem G7:itL (.lst ds)=some ds:=rfl
@[simp]theorem Rc:asI (.int a)=some a:=rfl
@[simp]theorem G6 {b:Bool}:asB (.bl b)=some b:=rfl
@[simp]theorem G2 {m:List En->Option En}{f:En->Option α}{gs:EnvD->Option (List En)}:gCall m f gs ρ=((gs ρ).bind m).bind f:=rfl
@[simp]theorem Gk {m:List En->Option En}{xs:List En}:len? n m xs=if xs.length=n then m xs else none:=rfl
@[simp]theorem Up:frzO (.val d)=some d:=rfl
@[simp]theorem G0:frzO (.acc ds)=some (.lst ds):=rfl
@[simp]theorem Gd:frzO (.bor ds)=none:=rfl
@[simp]theorem GX {p q C:Addr}{fs:List Str}:frzO (.oac p q C fs ds)=none:=rfl
@[simp]theorem Ru {t:OT}:frzO (.tre t)=some t.erase:=rfl
@[simp]theorem Gf {t:OT}:accO (.tre t)=none:=rfl
@[simp]theorem UW:accO (.val d)=none:=rfl
@[simp]theorem UU:accO (.bor ds)=none:=rfl
@[simp]theorem GN:accO (.acc ds)=some ds:=rfl
@[simp]theorem UO:gR1 gs ρ=(gs ρ).bind λxs=>match xs with | [.int j]=>if -BIG<=j/\j<=BIG then some (rngD 0 j.toNat) else none | _=>none:=rfl
@[simp]theorem Ur:gEn gs ρ=(gs ρ).bind λxs=>match xs with | [d]=>(itL d).map (enumD 0) | _=>none:=rfl
@[simp]theorem UI {C:Addr}{fl:Str}:gFld C fl g ρ=(g ρ).bind λd=>match d with | .obj C' fs ds=>if C'=C then lookZ fl fs ds else none | _=>none:=rfl
@[simp]theorem RF {C:Addr}{mm:Str}{m:List En->Option En}{f:En->Option α}{go:EnvD->Option D}{gs:EnvD->Option (List En)}:gMeth C mm m f go gs ρ=(go ρ).bind λd=>match d with
 |.obj C' fs ds=>if C'=C/\lookZ mm fs ds=none then ((gs ρ).bind λxs=>m (.val d::xs)).bind f else none
 |_=>none:=rfl
@[simp]theorem Rr {C:Addr}{mi:List En->Option (List Str×List D)}{gs:EnvD->Option (List En)}:gMake C n mi gs ρ=(gs ρ).bind λxs=>if xs.length=n then (mi xs).map λr=>.obj C r.1 r.2 else none:=rfl
@[simp]theorem Rm {own:List Str}{cap:List (Str×Nat)}{t:Tgt}{tc:EnvD->Option Bool}{ge:EnvD->Option D}{gi:EnvD->Option (List D)}:gComp own cap t tc ge gi ρ=(gi ρ).bind λds=>if ds.length<=TOP then compD t tc ge (List.replicate own.length none++capE ρ cap) ds else none:=rfl
@[simp]theorem Gw {cap:List (Str×Nat)}:capE ρ cap=cap.map λp=>capO ρ[p.2]?:=rfl
@[simp]theorem Kf:tYes ρ=some true:=rfl
@[simp]theorem R0:fSub (.int a) (.int b)=some (.int (a - b)):=rfl
theorem Zu:fMul (.int a) (.int b)=if (decide (-LIM < a)&&decide (a < LIM))||(decide (-LIM < b)&&decide (b < LIM)) then some (.int (a * b)) else none:=rfl
theorem Vo (h1:-LIM < a)(h2:a < LIM):fMul (.int a) (.int b)=some (.int (a * b)):=by rw[Zu,if_pos (by simp[h1,h2])]
theorem Rv (h1:-LIM < b)(h2:b < LIM):fMul (.int a) (.int b)=some (.int (a * b)):=by rw[Zu,if_pos (by simp[h1,h2])]
theorem Vi:fDiv (.int a) (.int b)=if decide (0 < b)&&decide (b < 1073741824) then some (.int (a / b)) else none:=rfl
theorem Wo:fMod (.int a) (.int b)=if decide (0 < b) then some (.int (a % b)) else none:=rfl
theorem yP (h1:0 < b)(h2:b < 1073741824):fDiv (.int a) (.int b)=some (.int (a / b)):=by rw[Vi,if_pos (by simp[h1,h2])]
theorem yd (h1:0 < b):fMod (.int a) (.int b)=some (.int (a % b)):=by rw[Wo,if_pos (by simp[h1])]
theorem Ye (h1:0<=b):fShr (.int a) (.int b)=some (.int (a / 2 ^ b.toNat)):=by show (if _ then _ else _)=_;rw[if_pos (by simp[h1])]
@[simp]theorem UT:fAnd (.int a) (.int b)=some (.int (Builtin.bitAnd a b)):=rfl
theorem US:fPow (.int a) (.int b)=if decide (0<=b)&&decide (b<=1000000)&&decide (a.natAbs < 18446744073709551616) then some (.int (a ^ b.toNat)) else none:=rfl
@[simp]theorem UJ:fLt (.int a) (.int b)=some (.bl (decide (a < b))):=rfl
@[simp]theorem GP:fLe (.int a) (.int b)=some (.bl (decide (a<=b))):=rfl
@[simp]theorem UH:fGt (.int a) (.int b)=some (.bl (decide (b < a))):=rfl
@[simp]theorem G5:fIx (.lst ds) (.int a)=atI ds a:=rfl
@[simp]theorem Rt:fIx (.tup ds) (.int a)=atI ds a:=rfl
@[simp]theorem GH {ns:List Int}:fIx (.scr ns) (.int a)=(atI ns a).map D.int:=rfl
theorem ZO:eqOk (.int a)=true:=by simp[eqOk,SeqAt.shaped,toP,PyData.canLay0,PyData.depth]
@[simp]theorem Rw {neg:Bool}:fEq neg (.int a) (.int b)=some (.bl (if neg then !decide (a=b) else decide (a=b))):=by
 unfold fEq
 rw[ZO,ZO]
 have:eqD (.int a) (.int b)=decide (a=b):=by
  by_cases h:a=b
  ·subst h;simp[eqD,toP,PyData.eqv]
  ·simp[eqD,toP,PyData.eqv,h]
 rw[this];rfl
@[simp]theorem U7 {neg:Bool}:fIs neg d .non=some (.bl (if neg then !isNon d else isNon d)):=by cases d<;>rfl
@[simp]theorem GR:isNon .non=true:=rfl
@[simp]theorem UQ:isNon (.int a)=false:=rfl
@[simp]theorem Ut {b:Bool}:truD (.bl b)=some b:=rfl
@[simp]theorem RE:truD (.lst ds)=some (!ds.isEmpty):=rfl
@[simp]theorem Ug:truD (.tup ds)=some (!ds.isEmpty):=rfl
@[simp]theorem Um:fLen [.lst ds]=some (.int ds.length):=rfl
@[simp]theorem UP:fLen [.tup ds]=some (.int ds.length):=rfl
@[simp]theorem Gz {ns:List Int}:fLen [.scr ns]=some (.int ns.length):=rfl
@[simp]theorem U6:fAll [.lst ds]=(asBs ds).map λbs=>.bl (bs.all λx=>x):=rfl
@[simp]theorem UD:fList [.lst ds]=some ds:=rfl
@[simp]theorem Uk:fList [.tup ds]=some ds:=rfl
@[simp]theorem Rg:tyD (.int a)=some "int" := rfl
@[simp]theorem Uh {b:Bool}:tyD (.bl b)=some "bool" := rfl
@[simp]theorem Ul:tyD .non=some "NoneType" := rfl
@[simp]theorem UE:tyD (.lst ds)=some "list" := rfl
@[simp]theorem Uz:tyD (.tup ds)=some "tuple" := rfl
@[simp]theorem GU {x:Str}:tyD (.str x)=some "str" := rfl
@[simp]theorem Re:subT "int" "int" = some true:=by decide
@[simp]theorem RC:subT "int" "bool" = some false:=by decide
@[simp]theorem UL:subT "NoneType" "int" = some false:=by decide
@[simp]theorem Gx:subT "list" "list" = some true:=by decide
@[simp]theorem UF:subT "tuple" "tuple" = some true:=by decide
@[simp]theorem G1:sSeq s1 s2 ρ=thenB (s1 ρ) s2:=rfl
@[simp]theorem R3:thenB (some (.next ρ)) s2=s2 ρ:=rfl
@[simp]theorem Gi {o:En}:thenB (some (.ret o)) s2=some (.ret o):=rfl
@[simp]theorem Rb:thenB none s2=none:=rfl
@[simp]theorem Rn {k:EnvD->Option Fl}:loopB (some (.next ρ)) k=k ρ:=rfl
@[simp]theorem Gb {k:EnvD->Option Fl}{o:En}:loopB (some (.ret o)) k=some (.ret o):=rfl
@[simp]theorem U8 {k:EnvD->Option Fl}:loopB none k=none:=rfl
@[simp]theorem UR:sNext ρ=some (.next ρ):=rfl
@[simp]theorem Rj:sNever ρ=none:=rfl
@[simp]theorem G9:sSet i g ρ=(g ρ).map λd=>.next (ρ.set i (some (.val d))):=rfl
@[simp]theorem Rl:sSetA i gs ρ=(gs ρ).map λds=>.next (ρ.set i (some (.acc ds))):=rfl
@[simp]theorem UK:sRet g ρ=(g ρ).map λd=>.ret (.val d):=rfl
@[simp]theorem RA:sRetA gs ρ=(gs ρ).map λd=>.ret (.acc d):=rfl
@[simp]theorem GC:sRetV i ρ=match ρ[i]? with | some (some (.acc ds))=>some (.ret (.acc ds)) | some (some (.val d))=>some (.ret (.val d)) | _=>none:=rfl
@[simp]theorem R7:sIf ta s1 s2 ρ=(ta ρ).bind λb=>if b then s1 ρ else s2 ρ:=rfl
@[simp]theorem U9:sExpr g ρ=(g ρ).map λ_=>.next ρ:=rfl
@[simp]theorem Gr:sApp i g ρ=match ρ[i]? with | some (some (.acc ds))=>(g ρ).bind λd=>if ds.length<=TOP then some (.next (ρ.set i (some (.acc (ds++[d]))))) else none | _=>none:=rfl
@[simp]theorem Ra:sPop i ρ=match ρ[i]? with | some (some (.acc ds))=>if ds.isEmpty then none else some (.next (ρ.set i (some (.acc ds.dropLast)))) | _=>none:=rfl
@[simp]theorem UX {gi:EnvD->Option D}:sPut i gi g ρ=match ρ[i]? with | some (some (.acc ds))=>(g ρ).bind λd=>((gi ρ).bind asI).bind λj=>(ixN ds.length j).map λn=>.next (ρ.set i (some (.acc (ds.set n d)))) | _=>none:=rfl
@[simp]theorem Uw {C:Addr}{fl:Str}:sFldD i C fl g ρ=match ρ[i]? with | some (some (.oac a dx C' fs ds))=>if C'=C/\fs.length < 900 then (g ρ).map λd=>.next (ρ.set i (some (.oac a dx C (putZ fl d fs ds).1 (putZ fl d fs ds).2))) else none | _=>none:=rfl
@[simp]theorem Gj {t:Tgt}{gi:EnvD->Option (List D)}:sFor t gi s1 ρ=(gi ρ).bind λds=>forD t s1 ds ρ:=rfl
@[simp]theorem Vz:asgD (.name i) d ρ=some (ρ.set i (some (.val d))):=rfl
@[simp]theorem G3 {is:List Nat}:asgD (.tup is) (.tup ds) ρ=if ds.length=is.length then some (yI is ds ρ) else none:=rfl
@[simp]theorem Gy {is:List Nat}:yI (i::is) (d::ds) ρ=yI is ds (ρ.set i (some (.val d))):=rfl
@[simp]theorem GK:yI [] [] ρ=ρ:=rfl
@[simp]theorem GF {o:En}:outO (some (.ret o))=some o:=rfl
@[simp]theorem UC:outO (some (.next ρ))=some (.val .non):=rfl
@[simp]theorem R9 {t:Tgt}:forD t s1 [] ρ=some (.next ρ):=rfl
@[simp]theorem R1 {t:Tgt}:forD t s1 (d::ds) ρ=loopB ((asgD t d ρ).bind s1) (forD t s1 ds):=by
 show ((asgD t d ρ).bind λρ1=>(s1 ρ1).bind λfl=>_)=_
 cases asgD t d ρ with
 |none=>rfl
 |some ρ1=>rfl
@[simp]theorem Gv {t:Tgt}:compD t ta g ρ []=some []:=rfl
@[simp]theorem xP {t:Tgt}:compD t ta g ρ (d::ds)=(asgD t d ρ).bind λρ1=>(ta ρ1).bind λb=>if b then (g ρ1).bind λy=>(compD t ta g ρ ds).map (y::·) else compD t ta g ρ ds:=rfl
@[simp]theorem RD:capO (some (some (.val d)))=some (.val d):=rfl
@[simp]theorem Ui:capO (some (some (.acc ds)))=some (.bor ds):=rfl
@[simp]theorem RB:capO (some (some (.bor ds)))=some (.bor ds):=rfl
@[simp]theorem Ud {oa:Option Addr}{kvs:List (Key×D)}:capO (some (some (.dct oa kvs)))=some (.dbo kvs):=rfl
@[simp]theorem Gm {kvs:List (Key×D)}:capO (some (some (.dbo kvs)))=some (.dbo kvs):=rfl
theorem vb {xs:List α}{v:α}(n:Nat)(h:xs[n]?=some v):atI xs (n:Int)=some v:=by
 have hl:n < xs.length:=(List.getElem?_eq_some_iff.mp h).1
 unfold atI ixN
 rw[if_pos (by omega),if_pos (by omega)]
 simpa using h
@[simp]theorem G8 {xs:List α}{v:α}:atI (v::xs) 0=some v:=vb 0 rfl
@[simp]theorem Uv {xs:List α}{v w:α}:atI (w::v::xs) 1=some v:=vb 1 rfl
@[simp]theorem GS {xs:List α}{v w u:α}:atI (u::w::v::xs) 2=some v:=vb 2 rfl
@[simp]theorem qL {xs:List α}{v:α}:atI (xs++[v]) (-1)=some v:=by
 unfold atI ixN
 rw[if_neg (by omega),if_pos (by simp;omega)]
 simp
 have:(-1+((xs.length:Int)+1)).toNat=xs.length:=by omega
 rw[this];simp
theorem Qk (n:Nat):ixN (n+1) (-1)=some n:=by
 unfold ixN
 rw[if_neg (by omega),if_pos (by omega)]
 congr 1;omega
theorem qE:∀(lo:Int) (n:Nat),rngD lo n=(List.range n).map λ(k:Nat)=>D.int (lo+k)
 |lo,0=>rfl
 |lo,n+1=>by
  rw[rngD,qE (lo+1) n,List.range_succ_eq_map]
  simp only[List.map_cons,List.map_map]
  congr 1
  ·simp
  ·apply List.map_congr_left
   intro a _
   show D.int _=D.int _
   congr 1
   show lo+1+(a:Int)=lo+((a+1:Nat):Int)
   omega
end
section
variable {X:Cx}{B:Bs}{e a b c o:Expr}{es:List Expr}{pos p apos cpos p2:Pos}{g ga gb go:EnvD->Option D}{gs:EnvD->Option (List D)}{x:Str}
def fPlus:D->D->Option D
 |.int i,.int j=>some (.int (i+j))
 |.str x,.str y=>if x.length+y.length<=TOP then some (.str (x++y)) else none
 |_,_=>none
theorem VI {K:KW}:OkR K (λx y H Q=>rI0 (λi j=>.int (i+j)) x y H Q∨∃i j,x=.str i/\y=.str j/\i.length+j.length<=sizeLine/\Q (.str (i++j)) H) (pE K) fPlus:=by
 intro F H x y dx dy d Q s rx ry e k
 unfold fPlus at e
 split at e
 ·cases e;exact .inl ⟨_,_,rx.int,ry.int,k _ F H (.refl s) rfl⟩
 ·split at e
  ·rename_i hc
   cases e;exact .inr ⟨_,_,rx.str,ry.str,yF hc,k _ F H (.refl s) rfl⟩
  ·cases e
 ·cases e
theorem zL (ha:DR X B a ga)(hb:DR X B b gb):DE X B (.BinOp a .Add b pos) (g2 fPlus ga gb):=yX (op_add.or K4) VI ha hb
def fItem:D->D->Option D
 |.str z,.int i=>if z.length<=TOP then (atI z.cps.toList i).map λc=>.str ⟨#[c]⟩ else none
 |.lst xs,.int i=>atI xs i
 |.tup xs,.int i=>atI xs i
 |.scr ns,.int i=>(atI ns i).map D.int
 |_,_=>none
theorem QI {K:KW}:OkR K (rIx K) (pE K) fItem:=by
 intro F H x y dx dy d Q s rx ry e k
 cases dx with
 |str z=>
  cases dy with
  |int i=>
   replace e:(if z.length<=TOP then (atI z.cps.toList i).map (λc=>D.str ⟨#[c]⟩) else none)=some d:=e
   split at e
   ·rename_i hc
    cases q:atI z.cps.toList i with
    |none=>rw[q] at e;cases e
    |some c=>
     rw[q] at e
     cases e
     exact .inr (.inr ⟨z,i,c,rx.str,ry.int,yF hc,q,k _ F H (.refl s) rfl⟩)
   ·cases e
  |_=>cases e
 |lst xs=>exact qJ F H x y _ dy d Q s rx ry (by cases dy<;>first | exact e | cases e) k
 |tup xs=>exact qJ F H x y _ dy d Q s rx ry (by cases dy<;>first | exact e | cases e) k
 |scr xs=>exact qJ F H x y _ dy d Q s rx ry (by cases dy<;>first | exact e | cases e) k
 |_=>cases dy<;>cases e
theorem zH (ha:DR X B a ga)(hb:DR X B b gb)(hs:jV b):DE X B (.Subscript a b pos) (g2 fItem ga gb):=JX Wh QI ha hb hs
theorem ZM:∀ {ys:List Str} {us:List Value},Vals (ys.map V.str) us->StrsAre us ys
 | [],_,.nil=>.nil
 |y::ys,_,.cons r t=>by
  obtain⟨k,rfl⟩:=r
  exact .cons y k (ZM t)
def rJoin (K:KW):V->List V->Hp->VK->Prop:=λx vs H Q=>∃z a ys,x=.str z/\vs=[.ref a]/\SqL K H a (ys.map V.str)/\(ys.map (·.length)).sum+ys.length * z.length<=16777216/\Q (.str (Txt.join z ys)) H
theorem YL:MtR X "str.join" (rJoin X.kw):=by
 intro pins s σ H x vs v us Q I rx rv h
 obtain⟨z,a,ys,rfl,rfl,hq,hz,q⟩:=h
 obtain⟨t,rfl⟩:=rx
 obtain⟨u,rfl,ru⟩:=rv.one
 cases ru
 obtain⟨its,r,pl,_⟩:=I.list hq
 exact join_list pl.isList (by simpa using ZM r) hz λt' k=>⟨.str _,H,I.tok _,⟨_,rfl⟩,q⟩
def asSs:List D->Option (List Str)
 | []=>some []
 |.str x::r=>(asSs r).map (x::·)
 |_=>none
theorem Yh {K:KW}{F:Hp}:∀ {ds:List D} {vs:List V} {bs:List Str},asSs ds=some bs->Rps K F ds vs->vs=bs.map V.str
 | [],_,_,e,h=>by cases e;cases h;rfl
 |.str b::r,_,_,e,⟨v,w,e1,h,t⟩=>by
  subst e1;cases h
  cases q:asSs r with
  |none=>rw[show asSs (.str b::r)=(asSs r).map (b::·) from rfl,q] at e;cases e
  |some bs=>
   rw[show asSs (.str b::r)=(asSs r).map (b::·) from rfl,q] at e
   cases e
   rw[Yh q t];rfl
 |.non::_,_,_,e,_=>by cases e
 |.int _::_,_,_,e,_=>by cases e
 |.bl _::_,_,_,e,_=>by cases e
 |.lst _::_,_,_,e,_=>by cases e
 |.tup _::_,_,_,e,_=>by cases e
 |.scr _::_,_,_,e,_=>by cases e
 |.obj _ _ _::_,_,_,e,_=>by cases e
 |.emp::_,_,_,e,_=>by cases e
 |.xc _::_,_,_,e,_=>by cases e
def fJoin:D->List D->Option D
 |.str z,[.lst ds]=>(asSs ds).bind λys=>if (ys.map (·.length)).sum+ys.length * z.length<=TOP then some (.str (Txt.join z ys)) else none
 |_,_=>none
def gSM (f:D->List D->Option D)(go:EnvD->Option D)(gs:EnvD->Option (List D)):EnvD->Option D:=λρ=>(go ρ).bind λd=>(gs ρ).bind λds=>f d ds
theorem Yw (ho:DR X B o go)(ha:DRs X B [e] gs)
  (hbase:attributeBase o "join" X.env (eval o X.env)=eval o X.env:=by rfl)
  (hfew:((backTo cpos (starEach [e] X.env)).all (λx=>!x.1)&&(backToKw cpos (keywordEach [] X.env)).all (λx=>x.1.isSome)
   && decide (([e]:List Expr).length+([]:List Keyword).length+(if ([]:List Keyword).isEmpty then 0 else 1) < 30))=true:=by rfl)
  (hline:(apos.endLine==cpos.line)=true:=by rfl) (hs:starEach [e] X.env=(false,eval e X.env)::starEach [] X.env:=by rfl) (hplain:(backTo cpos (starEach [] X.env)).any (·.1)=false:=by rfl) :
  DE X B (.Call (.Attribute o "join" apos) [e] [] cpos) (gSM fJoin go gs) :=
 zr (uj PySem.F.plainAttrs_str PySem.F.slot_str_join PySem.F.type_str_join YL ho ha hbase hfew hline hs hplain) λσ H Q zz=>zz.el λF ρ d r hg k=>by
  obtain⟨d1,ds,q1,q2,q3⟩:=bind2 hg
  unfold fJoin at q3
  split at q3
  ·rename_i z xs
   cases q4:asSs xs with
   |none=>rw[q4] at q3;cases q3
   |some ys=>
    rw[q4] at q3
    replace q3:(if (ys.map (·.length)).sum+ys.length * z.length<=TOP then some (D.str (Txt.join z ys)) else none)=some d:=q3
    split at q3
    ·rename_i hc
     cases q3
     refine⟨F,ρ,_,r,q1,λv F1 H1 e1 p1=>?_⟩
     cases p1.str
     refine⟨rfl,F1,ρ,_,r.ext e1,q2,λvs F2 H2 e2 p2=>?_⟩
     obtain⟨w,rfl,rw'⟩:=pair1 p2
     obtain⟨a,us,rfl,h1,h2⟩:=rw'.lst e2.fh
     have:=Yh q4 h2
     subst this
     exact⟨z,a,ys,rfl,rfl,.of h1,Nat.le_trans hc (by decide),k _ F2 H2 (e1.trans e2) rfl⟩
    ·cases q3
  ·cases q3
def rCatS (K:KW):R2:=λx y H Q=>∃l b xs zs,x=.ref l/\y=.ref b/\SqL K H l xs/\SqL K H b zs/\xs.length+zs.length<=sizeLine/\∀p,H p=none->Q (.ref p) (upd H p (.lst (xs++zs)))
theorem Qz:OpR X (binaryOp .Add) (rCatS X.kw):=by
 intro pins s σ H x y v u Q I rx ry h
 obtain⟨l,b,xs,zs,rfl,rfl,hH,hB,hz,q⟩:=h
 cases rx
 cases ry
 obtain⟨its,r,pl,z⟩:=I.list hH
 obtain⟨its2,r2,pl2,z2⟩:=I.list hB
 obtain⟨⟨cls,dd,data,sl⟩,n,ho,hc,hd',hd⟩:=pl
 obtain⟨⟨cls2,dd2,data2,sl2⟩,n2,ho2,hc2,hd2',hd2⟩:=pl2
 simp only at hc hd hc2 hd2
 subst hc hd hc2 hd2
 have e:its.toArray++its2.toArray=(its++its2).toArray:=by simp
 have l1:=r.length
 have l2:=r2.length
 refine concat_meets ⟨_,ho,rfl⟩ ⟨_,ho2,rfl⟩ noFill_list_add seq_list_add PySem.F.slot_list_add PySem.F.entry_list_add (PySem.F.args_list_add_2 _ _) (list_addW l b its.toArray its2.toArray n n2 dd dd2 sl sl2 (by simp;omega)) ⟨ho,ho2,?_⟩
 rw[e]
 exact⟨.ref _,_,I.lnew (t':=s.toks) (r.append r2) (by rw[List.length_append];omega),rfl,q _ I.fresh⟩
def fCatS:D->D->Option (List D):=λx y=>(itL x).bind λxs=>(itL y).bind λys=>if xs.length+ys.length<=TOP then some (xs++ys) else none
theorem YN {K:KW}:OkR K (rCatS K) (pA K) fCatS:=by
 intro F H x y dx dy d Q s rx ry e k
 unfold fCatS at e
 obtain⟨xs,ys,q1,q2,q3⟩:=bind2 e
 split at q3
 ·rename_i hc
  cases q3
  obtain⟨l,vs,rfl,h2,h1⟩:=jf rx q1
  obtain⟨b,ws,rfl,h4,h3⟩:=jf ry q2
  refine⟨l,b,vs,ws,rfl,rfl,h1 F H (Same.refl _) s (Same.refl _),h3 F H (Same.refl _) s (Same.refl _),yF (by rw[<-h2.length,<-h4.length];exact hc),λp hp=>k _ F _ (.new s hp) ⟨p,_,rfl,hp,zm,s.free hp,h2.append h4⟩⟩
 ·cases q3
theorem xK (ha:DR X B a ga)(hb:DR X B b gb):DA X B (.BinOp a .Add b pos) (g2 fCatS ga gb):=ZR Qz YN ha hb
def whileD (t:EnvD->Option Bool)(gb:SD):Nat->EnvD->Option Fl
 |0,_=>none
 |n+1,ρ=>(t ρ).bind λb=>if b then (gb ρ).bind λfl=>match fl with
  |.next ρ2=>whileD t gb n ρ2
  |.cont ρ2=>whileD t gb n ρ2
  |.brk ρ2=>some (.next ρ2)
  |.ret o=>some (.ret o)
  else some (.next ρ)
theorem jW {t:EnvD->Option Bool}{gb:SD}:∀ {n:Nat} {ρ:EnvD} {fl:Fl},whileD t gb n ρ=some fl->whileD t gb (n+1) ρ=some fl
 |0,_,_,h=>by cases h
 |n+1,ρ,fl,h=>by
  rw[whileD] at h ⊢
  cases q:t ρ with
  |none=>rw[q] at h;cases h
  |some b=>
   rw[q] at h
   cases b with
   |false=>exact h
   |true=>
    replace h:((gb ρ).bind λfl=>match fl with
     |.next ρ2=>whileD t gb n ρ2
     |.cont ρ2=>whileD t gb n ρ2
     |.brk ρ2=>some (.next ρ2)
     |.ret o=>some (.ret o))=some fl:=h
    show ((gb ρ).bind λfl=>match fl with
     |.next ρ2=>whileD t gb (n+1) ρ2
     |.cont ρ2=>whileD t gb (n+1) ρ2
     |.brk ρ2=>some (.next ρ2)
     |.ret o=>some (.ret o))=some fl
    cases q2:gb ρ with
    |none=>rw[q2] at h;cases h
    |some f=>
     rw[q2] at h
     cases f with
     |next ρ2=>exact jW h
     |cont ρ2=>exact jW h
     |brk ρ2=>exact h
     |ret o=>exact h
theorem ZI {t:EnvD->Option Bool}{gb:SD}{n m:Nat}{ρ:EnvD}{fl:Fl}(hm:n<=m)(h:whileD t gb n ρ=some fl):whileD t gb m ρ=some fl:=by
 induction hm with
 |refl=>exact h
 |step _ ih=>exact jW ih
open Classical in
def sWhile (t:EnvD->Option Bool)(gb:SD):SD:=λρ=>if h:∃n fl,whileD t gb n ρ=some fl then some (Classical.choose (Classical.choose_spec h)) else none
theorem Y4 {t:EnvD->Option Bool}{gb:SD}{n:Nat}{ρ:EnvD}{fl:Fl}(h:whileD t gb n ρ=some fl):sWhile t gb ρ=some fl:=by
 unfold sWhile
 have hx:∃n fl,whileD t gb n ρ=some fl:=⟨n,fl,h⟩
 rw[dif_pos hx]
 have q:=Classical.choose_spec (Classical.choose_spec hx)
 generalize Classical.choose (Classical.choose_spec hx)=f at q
 generalize Classical.choose hx=k at q
 have a1:=ZI (Nat.le_max_left n k) h
 have a2:=ZI (Nat.le_max_right n k) q
 rw[a1] at a2
 exact a2.symm
theorem Jq {t:EnvD->Option Bool}{gb:SD}{ρ:EnvD}{fl:Fl}(h:sWhile t gb ρ=some fl):∃n,whileD t gb n ρ=some fl:=by
 unfold sWhile at h
 split at h
 ·rename_i hx
  cases h
  exact⟨_,Classical.choose_spec (Classical.choose_spec hx)⟩
 ·cases h
theorem Wj {body:List Stmt}{t:EnvD->Option Bool}{gbd:SD}(hp:PassesOwn (model X.prog X.w) X.A X.env X.xe)(hc:DT X B c t)(hb:DSs X B body gbd):DS X B (.While c body [] pos) (sWhile t gbd) :=
 zW (K3 hp hc hb) λE σ H zz=>zz.el λF ρ fl r hg k=>by
  obtain⟨n,hn⟩:=Jq hg
  refine⟨λm σ H=>∃F2 ρ2,Rep X.kw B F2 σ H ρ2/\Same F F2/\whileD t gbd m ρ2=some fl,⟨n,F,ρ,r,Same.refl _,hn⟩,?_⟩
  rintro m σ2 H2 ⟨F2,ρ2,r2,s2,h2⟩
  cases m with
  |zero=>cases h2
  |succ m=>
   rw[whileD] at h2
   cases q:t ρ2 with
   |none=>rw[q] at h2;cases h2
   |some bb=>
    rw[q] at h2
    refine⟨F2,ρ2,bb,r2,q,λF3 H3 e3=>?_⟩
    cases bb with
    |false=>
     cases h2
     exact iteF (k σ2 F3 H3 (r2.ext e3) (s2.trans e3.ff))
    |true=>
     refine iteT ⟨λσ' H'=>∃F4 ρ4,Rep X.kw B F4 σ' H' ρ4/\Same F F4/\whileD t gbd m ρ4=some fl,λσ' H' h=>⟨m,Nat.lt_succ_self _,h⟩,?_⟩
     replace h2:((gbd ρ2).bind λfl=>match fl with
      |.next ρ2=>whileD t gbd m ρ2
      |.cont ρ2=>whileD t gbd m ρ2
      |.brk ρ2=>some (.next ρ2)
      |.ret o=>some (.ret o))=some fl:=h2
     cases q2:gbd ρ2 with
     |none=>rw[q2] at h2;cases h2
     |some f1=>
      rw[q2] at h2
      refine⟨F3,ρ2,f1,r2.ext e3,q2,?_⟩
      cases f1 with
      |next ρ5=>exact λσ5 F5 H5 r5 s5=>⟨F5,ρ5,r5,(s2.trans e3.ff).trans s5,h2⟩
      |cont ρ5=>exact λσ5 F5 H5 r5 s5=>⟨F5,ρ5,r5,(s2.trans e3.ff).trans s5,h2⟩
      |brk ρ5=>cases h2;exact λσ5 F5 H5 r5 s5=>k σ5 F5 H5 r5 ((s2.trans e3.ff).trans s5)
      |ret o=>cases h2;exact k
variable {nm:Str}{id:String}{r:V->List V->Hp->VK->Prop}{f:List D->List D->Option (List D)}
theorem WJ {gl:EnvD->Option (List D)}{σ:St}{H:Hp}{Q:VK}(h:lG X.kw B (pE X.kw) (gFz gl) σ H Q):lG X.kw B (pA X.kw) gl σ H Q:=by
 refine Lq.el h λF ρ x r hg k=>?_
 unfold gFz at hg
 cases q:gl ρ with
 |none=>rw[q] at hg;cases hg
 |some ds=>
  rw[q] at hg;cases hg
  refine⟨F,ρ,ds,r,q,λv F' H' e p=>?_⟩
  obtain⟨a,vs,rfl,p1,p2,p3,p4⟩:=p
  exact k _ (upd F' a (.lst vs)) H' (e.freeze p1 p3 p2) ⟨a,vs,rfl,zm,p4.mono (ya p3)⟩
section
variable {i:Nat}{y:Str}{py spos:Pos}{elt tg iter:Expr}{ifs:List Expr}{scope:Scope}{own:List Str}{cap:List (Str×Nat)}{t:Tgt}{tc:EnvD->Option Bool}{ge:EnvD->Option D}{gi:EnvD->Option (List D)}
theorem JM (hc:X.calm=true)(S:CompScope X scope own cap)(hi:DI X B (λH=>H) tg iter gi)
  (hin:∀(B':Bs) C s₀ H₀ fp pn,PG (cxc X scope C (own++cap.map (·.1)) s₀ H₀ fp pn) tg (tgT X.kw t)/\DIfs (cxc X scope C (own++cap.map (·.1)) s₀ H₀ fp pn) B' ifs tc/\DE (cxc X scope C (own++cap.map (·.1)) s₀ H₀ fp pn) B' elt ge)
  (hN:X.N.Nodup) (hiy:X.N[i]?=some y) (hy:Loc X.env.scope y) (hsw:swapsWith (.ListComp elt [⟨tg,iter,ifs,0⟩] scope pos) (some (.Name y py)) spos.line X.env=pure true)
  (hs:∀x,foldedSetIterable iter X.env x=pure x) (hfn:X.fn y=true∨X.env.scope.names.lookup y=some .local) :
  PS X (.Assign [.Name y py] (.ListComp elt [⟨tg,iter,ifs,0⟩] scope pos) spos) (tAsg (tComp (lI X.kw B (λH=>H) gi) own cap (tgT X.kw t) (λσ H Q=>∃B',lT X.kw B' tc σ H Q) (λσ H Q=>∃B',lG X.kw B' (pE X.kw) ge σ H Q)) (gName i)) :=
 Vr (tc:=λσ H Q=>∃B',lT X.kw B' tc σ H Q) (te:=λσ H Q=>∃B',lG X.kw B' (pE X.kw) ge σ H Q) hc S hi (λC s₀ H₀ fp pn=>⟨(hin ⟨H₀,H₀⟩ C s₀ H₀ fp pn).1,λpins s σ H Q I ⟨B',q⟩=>(hin B' C s₀ H₀ fp pn).2.1 pins s σ H Q I q,λpins s σ H Q I ⟨B',q⟩=>(hin B' C s₀ H₀ fp pn).2.2 pins s σ H Q I q⟩) hN hiy hy hsw hs hfn
theorem Qw (hc:X.calm=true)(S:CompScope X scope own cap)(hi:DI X B (λH=>H) tg iter gi)(ht:∀i∈t.slots,i < own.length)
  (hin:∀(B':Bs) C s₀ H₀ fp pn,PG (cxc X scope C (own++cap.map (·.1)) s₀ H₀ fp pn) tg (tgT X.kw t)/\DIfs (cxc X scope C (own++cap.map (·.1)) s₀ H₀ fp pn) B' ifs tc/\DE (cxc X scope C (own++cap.map (·.1)) s₀ H₀ fp pn) B' elt ge)
  (hN:X.N.Nodup) (hiy:X.N[i]?=some y) (hy:Loc X.env.scope y) (hsw:swapsWith (.ListComp elt [⟨tg,iter,ifs,0⟩] scope pos) (some (.Name y py)) spos.line X.env=pure true:=by rfl)
  (hs:∀x,foldedSetIterable iter X.env x=pure x:=by intro _;rfl) (hfn:X.fn y=true∨X.env.scope.names.lookup y=some .local:=by first | exact .inl rfl | exact .inr rfl | assumption) :
  DS X B (.Assign [.Name y py] (.ListComp elt [⟨tg,iter,ifs,0⟩] scope pos) spos) (sSet i (gFz (gComp own cap t tc ge gi))) :=
 zW (JM hc S hi hin hN hiy hy hsw hs hfn) λE σ H h=>Zq ht σ H _ (WJ (Yn h))
end
end
section
variable {X:Cx}{B:Bs}{e a b c o:Expr}{es:List Expr}{pos p p2 apos cpos:Pos}{g ga gb go:EnvD->Option D}{gs:EnvD->Option (List D)}{x:Str}
def gh (i:Nat):EnvD->Option D:=λρ=>match ρ[i]? with
 |some (some (.val d))=>some d
 |some (some (.acc ds))=>some (.lst ds)
 |some (some (.bor ds))=>some (.lst ds)
 |some (some (.tre t))=>some t.erase
 |_=>none
variable {gt':EnvD->Option OT}{gts:EnvD->Option (List OT)}
variable {gxs:EnvD->Option (List En)}{n k:Nat}{m:List En->Option En}
mutual
def OT.get:OT->List Nat->Option OT
 |t,[]=>some t
 |.lst ts,k::p=>gets ts k p
 |.tup ts,k::p=>gets ts k p
 |.frz _,_::_=>none
def gets:List OT->Nat->List Nat->Option OT
 | [],_,_=>none
 |t::_,0,p=>t.get p
 |_::ts,k+1,p=>gets ts k p
end
mutual
def OT.put:OT->List Nat->OT->OT
 |_,[],u=>u
 |.lst ts,k::p,u=>.lst (puts ts k p u)
 |.tup ts,k::p,u=>.tup (puts ts k p u)
 |.frz d,_::_,_=>.frz d
def puts:List OT->Nat->List Nat->OT->List OT
 | [],_,_,_=>[]
 |t::ts,0,p,u=>t.put p u::ts
 |t::ts,k+1,p,u=>t::puts ts k p u
end
structure At (K:KW)(F H:Hp)(ft:List Addr)(ds:List D)(b:Addr)(vs:List V):Prop where
 hb:H b=some (.lst vs)
 rp:Rps K F ds vs
 mem:b∈ft
end
def OT.size:OT->Option Nat
 |.lst ts=>some ts.length
 |.tup ts=>some ts.length
 |.frz _=>none
section
variable {X:Cx}{B:Bs}{e a b c o:Expr}{es:List Expr}{pos p p2 apos cpos:Pos}{g ga gb go:EnvD->Option D}{gs:EnvD->Option (List D)}{x nm:Str}{gp:EnvD->Option (List Nat)}
variable {id:String}{r:V->List V->Hp->VK->Prop}{f:List D->List D->Option (List D)}
end
section
variable {ρ:EnvD}{i:Nat}{t:OT}{ga gb:EnvD->Option D}{gs:EnvD->Option (List D)}{gp:EnvD->Option (List Nat)}{ds:List D}{gt':EnvD->Option OT}{gts:EnvD->Option (List OT)}{gl:EnvD->Option (List D)}{α:Type}
@[simp]theorem Gu:gh i ρ=match ρ[i]? with | some (some (.val d))=>some d | some (some (.acc ds))=>some (.lst ds) | some (some (.bor ds))=>some (.lst ds) | some (some (.tre t))=>some t.erase | _=>none:=rfl
@[simp]theorem Ux {d:D}:(OT.frz d).erase=d:=by simp[OT.erase]
@[simp]theorem Gc {ts:List OT}:(OT.tup ts).erase=.tup (erases ts):=by simp[OT.erase]
@[simp]theorem U3:erases []=[]:=by simp[erases]
@[simp]theorem GT {ts:List OT}:erases (t::ts)=t.erase::erases ts:=by simp[erases]
end
section
variable {ρ:EnvD}{i k n m:Nat}{d x y:D}{ds es:List D}{a b j:Int}{α γ:Type}{ga gb gc' g:EnvD->Option D}{ta tb:EnvD->Option Bool}{gs:EnvD->Option (List D)}{s1 s2:SD}{p q:Str}{ns:List Int}
@[simp]theorem V4:fPlus (.int a) (.int b)=some (.int (a+b)):=rfl
@[simp]theorem Y5:fPlus (.str p) (.str q)=if p.length+q.length<=TOP then some (.str (p++q)) else none:=rfl
@[simp]theorem RG:fItem (.lst ds) (.int a)=atI ds a:=rfl
@[simp]theorem GY:fItem (.tup ds) (.int a)=atI ds a:=rfl
@[simp]theorem GV:fItem (.scr ns) (.int a)=(atI ns a).map D.int:=rfl
theorem Zc:fItem (.str p) (.int a)=if p.length<=TOP then (atI p.cps.toList a).map λc=>.str ⟨#[c]⟩ else none:=rfl
@[simp]theorem Uy {f:D->List D->Option D}:gSM f ga gs ρ=(ga ρ).bind λd=>(gs ρ).bind λds=>f d ds:=rfl
@[simp]theorem Jx:fJoin (.str p) [.lst ds]=(asSs ds).bind λys=>if (ys.map (·.length)).sum+ys.length * p.length<=TOP then some (.str (Txt.join p ys)) else none:=rfl
@[simp]theorem Ga:itL (.scr ns)=some (ns.map D.int):=rfl
@[simp]theorem UV:fCatS x y=(itL x).bind λxs=>(itL y).bind λys=>if xs.length+ys.length<=TOP then some (xs++ys) else none:=rfl
@[simp]theorem Uq:tyD (.str p)=some "str" := rfl
@[simp]theorem Rf:isNon (.lst ds)=false:=rfl
@[simp]theorem RH:fList [.scr ns]=some (ns.map D.int):=rfl
theorem fEqB {neg u v:Bool}:fEq neg (.bl u) (.bl v)=some (.bl (if neg then !(u==v) else (u==v))):=by
 cases neg<;>cases u<;>cases v<;>rfl
theorem kg {t:EnvD->Option Bool}(h:t ρ=some false):whileD t s1 (n+1) ρ=some (.next ρ):=by
 rw[whileD,h];rfl
theorem uL {t:EnvD->Option Bool}{ρ2:EnvD}(h:t ρ=some true)(h2:s1 ρ=some (.next ρ2)):whileD t s1 (n+1) ρ=whileD t s1 n ρ2:=by
 rw[whileD,h]
 show ((s1 ρ).bind _)=_
 rw[h2];rfl
theorem Ql {xs:List α}(h:0<=a):cutD xs none (some a)=xs.take a.toNat:=by
 simp only[cutD,HT.sIx]
 rw[if_neg (show ¬a < 0 by omega)]
 simp only[Nat.sub_zero,List.drop_zero]
 by_cases h2:a.toNat<=xs.length
 ·rw[Nat.min_eq_left h2]
 ·rw[Nat.min_eq_right (by omega),List.take_of_length_le (Nat.le_refl _),List.take_of_length_le (by omega)]
theorem Vw {xs:List α}(h:0<=a):cutD xs (some a) none=xs.drop a.toNat:=by
 simp only[cutD,HT.sIx]
 rw[if_neg (show ¬a < 0 by omega)]
 by_cases h2:a.toNat<=xs.length
 ·rw[Nat.min_eq_left h2]
  exact List.take_of_length_le (by simp)
 ·rw[Nat.min_eq_right (by omega),List.drop_of_length_le (Nat.le_refl _),List.drop_of_length_le (by omega)];simp
theorem Rz {β:Type}{f:α->β}{xs:List α}{l h:Option Int}:cutD (xs.map f) l h=(cutD xs l h).map f:=by
 unfold cutD;simp[List.map_drop,List.map_take]
theorem uZ {xs:List α}(h1:0<=a)(h2:a < xs.length):∃v,atI xs a=some v/\xs[a.toNat]?=some v:=by
 obtain⟨n,rfl⟩:∃n:Nat,a=(n:Int):=⟨a.toNat,by omega⟩
 have hl:n < xs.length:=by omega
 exact⟨xs[n],vb n (List.getElem?_eq_getElem hl),by simp[hl]⟩
theorem G4 {β:Type}{f:α->β}{xs:List α}:atI (xs.map f) a=(atI xs a).map f:=by
 unfold atI
 rw[List.length_map]
 cases ixN xs.length a with
 |none=>rfl
 |some j=>simp
theorem UN {xs:List α}{v:α}(h:atI xs a=some v):v∈xs:=by
 unfold atI at h
 cases q:ixN xs.length a with
 |none=>rw[q] at h;cases h
 |some j=>rw[q] at h;exact List.mem_of_getElem? h
def Tx (n:Nat)(x:Str):Prop:=PyData.strOk x=true/\x.length<=n
theorem Tx.mono {x:Str}(h:Tx n x)(e:n<=m):Tx m x:=⟨h.1,Nat.le_trans h.2 e⟩
theorem Tx.app {x y:Str}(h:Tx n x)(h':Tx m y):Tx (n+m) (x++y):=by
 refine⟨?_,?_⟩
 ·show (x.cps++y.cps).all _=true
  rw[Array.all_append]
  exact Bool.and_eq_true_iff.mpr ⟨h.1,h'.1⟩
 ·show (x.cps++y.cps).size<=n+m
  rw[Array.size_append]
  have h1:=h.2
  have h2:=h'.2
  unfold Str.length at h1 h2
  omega
theorem Tx.slice {x:Str}{l u:Option Int}(h:Tx n x):Tx n (Txt.slice x l u):=by
 refine⟨?_,Nat.le_trans (Txt.slice_le x l u) h.2⟩
 unfold Txt.slice
 split
 ·exact h.1
 ·have h1:=h.1
  unfold PyData.strOk at h1 ⊢
  rw[Array.all_eq_true'] at h1
  rw[Array.all_eq_true']
  intro c hc
  simp only[List.mem_toArray,List.mem_filterMap] at hc
  obtain⟨i,_,e⟩:=hc
  exact h1 c (Array.mem_of_getElem? e)
theorem Tx.item {z:Str}(h:Tx n z)(hn:n<=TOP)(h1:0<=a)(h2:a < z.length):∃c,fItem (.str z) (.int a)=some (.str c)/\Tx 1 c:=by
 have hl:(z.cps.toList.length:Int)=z.length:=by simp[Str.length]
 obtain⟨c,e1,e2⟩:=uZ (xs:=z.cps.toList) h1 (by omega)
 refine⟨⟨#[c]⟩,?_,?_,Nat.le_refl _⟩
 ·rw[Zc,if_pos (Nat.le_trans h.2 hn),e1];rfl
 ·have h1:=h.1
  unfold PyData.strOk at h1
  rw[Array.all_eq_true'] at h1
  have:=h1 c (by simpa using List.mem_of_getElem? e2)
  unfold PyData.strOk
  simpa using this
theorem Ym (sep:Str)(hs:PyData.strOk sep=true):∀(rest:List Str) (acc:Array Nat),acc.all (· < 0x110000)=true->(∀y∈rest,PyData.strOk y=true)->(rest.foldl (λacc p=>acc++sep.cps++p.cps) acc).all (· < 0x110000)=true
 | [],_,h,_=>h
 |y::rest,acc,h,hy=>by
  rw[List.foldl_cons]
  refine Ym sep hs rest _ ?_ λz hz=>hy z (by simp[hz])
  rw[Array.all_append,Array.all_append]
  have h2:y.cps.all (· < 0x110000)=true:=hy y (by simp)
  have h3:sep.cps.all (· < 0x110000)=true:=hs
  rw[h,h2,h3];rfl
theorem Tx.join0 {ys:List Str}(h:∀y∈ys,Tx 1 y):Tx ys.length (Txt.join "" ys):=by
 have e0:PyData.strOk ("" : Str)=true:=by decide +kernel
 refine⟨?_,?_⟩
 ·show ((ys.drop 1).foldl (λacc p=>acc++("" : Str).cps++p.cps) (ys.headD Str.empty).cps).all (· < 0x110000)=true
  refine Ym "" e0 (ys.drop 1) _ ?_ λy hy=>(h y (List.mem_of_mem_drop hy)).1
  cases ys with
  |nil=>simp[Str.empty]
  |cons y r=>exact (h y (by simp)).1
 ·show (Builtin.Str.glued "" ys).length<=ys.length
  rw[PySem.size_glued]
  have e1:("" : Str).length=0:=by decide +kernel
  rw[e1,Nat.mul_zero,Nat.add_zero]
  have:∀l:List Str,(∀y∈l,Tx 1 y)->(l.map (·.length)).sum<=l.length:=by
   intro l
   induction l with
   |nil=>intro _;exact Nat.le_refl _
   |cons y r ih=>
    intro hh
    have h1:=(hh y (by simp)).2
    have h2:=ih λz hz=>hh z (by simp[hz])
    simp only[List.map_cons,List.sum_cons,List.length_cons]
    omega
  exact this ys h
theorem VT:∀ {l:List Str},(∀y∈l,Tx 1 y)->(l.map (·.length)).sum<=l.length
 | [],_=>Nat.le_refl _
 |y::r,hh=>by
  have h1:=(hh y (by simp)).2
  have h2:=VT λz hz=>hh z (List.mem_cons_of_mem _ hz)
  simp only[List.map_cons,List.sum_cons,List.length_cons]
  omega
theorem WU:∀(ys:List Str),asSs (ys.map D.str)=some ys
 | []=>rfl
 |y::ys=>by simp[asSs,WU ys]
end
def Its (z:Str):It:=⟨λi _=>i < z.cps.size,λi H x H'=>H'=H/\∃c,z.cps[i]?=some c/\x=.str ⟨#[c]⟩,λi _=>i=z.cps.size⟩
theorem kX {P:Program}{w:World}{K:PySem.W.Frag}{z:Str}{t:Tok}{it:Addr}{n:String}
  (W:∀A':Around,A'.handled=none->Walks P w A' it [it] [it] z.cps.size (SignAt z) (λi h=>h.IsStrIter it n z t i))
  (sf:∀(A:Around) (i:Nat) (s:Shared) (Q:Value->Shared->Prop) (E:Value->Shared->Prop),s.heap.IsStrIter it n z t i->Q (.ref it) s->wpAny (model P w) A (pyIter (.ref it)) Q E s)
  (hn:["enumerate","zip","dict_itemiterator","dict_reverseitemiterator","odict_iterator","itertools.zip_longest","itertools.pairwise"].contains n=false) {tg:Expr} :
  Turn P w K tg (Its z) [it] it (λi h=>h.IsStrIter it n z t i) where
 mem:=by simp
 obj:=λi h st b hb=>by
  have e:b=it:=by simpa using hb
  subst e
  obtain⟨o,e,c,d⟩:=st
  exact⟨o,e,λv z=>by rw[d] at z;cases z⟩
 keep:=λi h h' st k=>let ⟨o,e,r⟩:=st;⟨o,k it (by simp) o e,r⟩
 item:=by
  intro X hP hw hK hc i pins s σ H E I hf st hg
  subst hP hw hK
  obtain⟨f0,f1,f2,f3,f4,f5⟩:=hf it (by simp)
  refine (W X.A (I.ok.hd hc)).item i s _ _ hg st λv h' tk hv st' kk=>?_
  obtain⟨c,u,e,rfl⟩:=hv
  have I1:Inv X pins σ H { s with heap:=h',toks:=tk }:=I.turned (λb o hb e=>kk b o (by simpa using hb) e) f0 f1 f3 f4 f5
  obtain⟨o,e1,e2,e3⟩:=id st'
  exact⟨_,rfl,qv (s:={ s with heap:=h',toks:=tk }) e1 e2 e3 hn ⟨.str ⟨#[c]⟩,H,I1,⟨u,rfl⟩,⟨rfl,c,e,rfl⟩,st',λb hb=>(hf b hb).1⟩⟩
 done:=by
  intro X hP hw hK hc i pins s σ H E I hf st hg
  subst hP hw hK
  obtain⟨f0,f1,f2,f3,f4,f5⟩:=hf it (by simp)
  have hg:i=z.cps.size:=hg
  subst hg
  exact (W X.A (I.ok.hd hc)).done s _ _ st λh' tk kk=>⟨rfl,I.turned (t':=tk) (λb o hb e=>kk b o (by simpa using hb) e) f0 f1 f3 f4 f5⟩
 self:=sf
def iStr (tl:TE):TI:=λσ H R=>tl σ H λx H1=>∃z,x=.str z/\R (Its z) H1
theorem Ww {X:Cx}{tg l:Expr}{tl:TE}(hl:PE X l tl):PI X tg l (iStr tl):=by
 intro pins s σ H R I h
 refine thn (hl pins s σ H _ I h) λv s1 ⟨x,H1,I1,r1,q1⟩=>?_
 obtain⟨z,rfl,q⟩:=q1
 obtain⟨t,rfl⟩:=r1
 have fin:∀ {n:String} (o:Obj),o={ cls:=.type n,data:=.fields #[.str z t,.int 0 0] }->Turn X.prog X.w X.kw tg (Its z) [s1.heap.objs.size] s1.heap.objs.size (λi h=>h.IsStrIter s1.heap.objs.size n z t i)->PIE X pins σ tg R (.ref s1.heap.objs.size) { s1 with heap:=s1.heap.push o }:=by
  intro n o ho T
  subst ho
  refine⟨s1.heap.objs.size,[s1.heap.objs.size],_,_,H1,rfl,I1.kept (t':=s1.toks) λb o e=>Heap.get?_push_of_some _ e,T,⟨_,Heap.get?_push_size _ rfl,rfl,rfl⟩,λb hb=>?_,q⟩
  have e:b=s1.heap.objs.size:=by simpa using hb
  subst e
  exact I1.fpOk (Nat.le_refl _) (I1.hok.fresh (Nat.le_refl _))
 cases ha:z.cps.all (· < 128)
 ·exact wpAny_pyIter_wide ha (fin _ rfl (kX (λA' hA=>Walks.strWide hA _ z t) (λA i s Q E st h=>wpAny_pyIter_striter_wide st h) (by decide)))
 ·exact wpAny_pyIter_ascii ha (fin _ rfl (kX (λA' hA=>Walks.strAscii hA _ z t) (λA i s Q E st h=>wpAny_pyIter_striter_ascii st h) (by decide)))
section
variable {X:Cx}{B:Bs}{hb:Hp->Hp}{e a b c o tg:Expr}{es:List Expr}{pos p p2 apos cpos:Pos}{g ga gb go:EnvD->Option D}{gs:EnvD->Option (List D)}{x:Str}
def chD (z:Str):List D:=z.cps.toList.map λc=>D.str ⟨#[c]⟩
def gItS (g:EnvD->Option D):EnvD->Option (List D):=λρ=>(g ρ).bind λd=>match d with
 |.str z=>some (chD z)
 |_=>none
theorem Z6 (h:DR X B e g):DI X B hb tg e (gItS g) :=
 vL (Ww h) λσ H R zz=>zz.el λF ρ ds r hg k=>by
  unfold gItS at hg
  cases q:g ρ with
  |none=>rw[q] at hg;cases hg
  |some d=>
   rw[q] at hg
   cases d with
   |str z=>
    cases hg
    refine⟨F,ρ,_,r,q,λv F1 H1 e1 p1=>⟨z,p1.str,k _ F1 H1 e1 λF2 H2 s1 s2 s3 i=>⟨λhi=>?_,λhi=>?_⟩⟩⟩
    ·have hl:i < z.cps.size:=by simpa[chD] using hi
     refine⟨hl,λy H3 hy=>?_⟩
     obtain⟨rfl,c,hc,rfl⟩:=hy
     refine⟨F2,.str ⟨#[c]⟩,.refl s2,?_,rfl⟩
     unfold chD
     rw[List.getElem?_map]
     have:z.cps.toList[i]?=some c:=by simpa using hc
     rw[this];rfl
    ·show i=z.cps.size
     simpa[chD] using hi
   |_=>cases hg
def toV:D->Option V
 |.non=>some .non
 |.bl b=>some (.bl b)
 |.int i=>some (.int i)
 |.str x=>some (.str x)
 |_=>none
def toVs:List D->Option (List V)
 | []=>some []
 |d::ds=>(toV d).bind λv=>(toVs ds).map (v::·)
theorem QL {K:KW}{F:Hp}{d:D}{v w:V}(h:toV d=some v)(r:Rp K F d w):w=v/\flatV v=true:=by
 cases d<;>first | (cases h;exact⟨r,rfl⟩) | cases h
theorem ku {K:KW}{F:Hp}:∀ {ds:List D} {vs ws:List V},toVs ds=some vs->Rps K F ds ws->ws=vs/\vs.all flatV=true
 | [],_,_,h,r=>by cases h;cases r;exact⟨rfl,rfl⟩
 |d::ds,vs,ws,h,⟨w,r,e,h1,h2⟩=>by
  subst e
  cases q1:toV d with
  |none=>rw[show toVs (d::ds)=(toV d).bind λv=>(toVs ds).map (v::·) from rfl,q1] at h;cases h
  |some v=>
   cases q2:toVs ds with
   |none=>rw[show toVs (d::ds)=(toV d).bind λv=>(toVs ds).map (v::·) from rfl,q1,q2] at h;cases h
   |some us=>
    rw[show toVs (d::ds)=(toV d).bind λv=>(toVs ds).map (v::·) from rfl,q1,q2] at h
    cases h
    obtain⟨e1,f1⟩:=QL q1 h1
    obtain⟨e2,f2⟩:=ku q2 h2
    subst e1;subst e2
    exact⟨rfl,by rw[List.all_cons,f1,f2];rfl⟩
def fIn (neg:Bool):D->D->Option D
 |.str i,.str j=>some (.bl (if neg then !(!(Builtin.Str.occurrences j i 0 j.length 1).isEmpty) else !(Builtin.Str.occurrences j i 0 j.length 1).isEmpty))
 |x,.lst ds=>(toV x).bind λv=>(toVs ds).map λvs=>.bl (if neg then !inV v vs else inV v vs)
 |x,.tup ds=>(toV x).bind λv=>(toVs ds).map λvs=>.bl (if neg then !inV v vs else inV v vs)
 |_,_=>none
def rInA (K:KW)(neg:Bool):R2:=λx y H Q=>rIn K neg x y H Q∨∃i j,x=.str i/\y=.str j/\Q (.bl (if neg then !(!(Builtin.Str.occurrences j i 0 j.length 1).isEmpty) else !(Builtin.Str.occurrences j i 0 j.length 1).isEmpty)) H
theorem qX:OpR X (compareOp .In) (rInA X.kw false):=op_in_seq.or Q8
theorem ok_in {K:KW}{neg:Bool}:OkR K (rInA K neg) (pE K) (fIn neg):=by
 intro F H x y dx dy d Q s rx ry e k
 have seq:∀ {v:V} {ds:List D} {vs ws:List V} {a:Addr},toV dx=some v->toVs ds=some vs->Rps K F ds ws->y=.ref a->(SqL K H a ws∨SqT K H a ws)->d=.bl (if neg then !inV v vs else inV v vs)->rInA K neg x y H Q:=by
  intro v ds vs ws a h1 h2 h3 h4 h5 h6
  obtain⟨e2,f2⟩:=ku h2 h3
  have hx:x=v/\flatV v=true:=by
   cases dx with
   |non=>cases h1;exact⟨rx.non,rfl⟩
   |bl b=>cases h1;exact⟨rx.bl,rfl⟩
   |int b=>cases h1;exact⟨rx.int,rfl⟩
   |str b=>cases h1;exact⟨rx.str,rfl⟩
   |_=>cases h1
  subst e2
  subst h6
  exact .inl ⟨a,ws,h4,h5,by rw[hx.1];exact hx.2,f2,by rw[hx.1];exact k _ F H (.refl s) rfl⟩
 have two:∀ {ds:List D},((toV dx).bind λv=>(toVs ds).map λvs=>D.bl (if neg then !inV v vs else inV v vs))=some d->∃v vs,toV dx=some v/\toVs ds=some vs/\d=.bl (if neg then !inV v vs else inV v vs):=by
  intro ds h
  cases q1:toV dx with
  |none=>rw[q1] at h;cases h
  |some v=>
   cases q2:toVs ds with
   |none=>rw[q1,q2] at h;cases h
   |some vs=>rw[q1,q2] at h;cases h;exact⟨v,vs,rfl,rfl,rfl⟩
 cases dy with
 |lst ds=>
  obtain⟨v,vs,q1,q2,q3⟩:=two (ds:=ds) (by cases dx<;>exact e)
  obtain⟨a,ws,h1,h2,h3⟩:=ry.lst s
  exact seq q1 q2 h3 h1 (.inl (.of h2)) q3
 |tup ds=>
  obtain⟨v,vs,q1,q2,q3⟩:=two (ds:=ds) (by cases dx<;>exact e)
  obtain⟨a,ws,h1,h2,h3⟩:=ry.tup s
  exact seq q1 q2 h3 h1 (.inr (.of h2)) q3
 |str j=>
  cases dx with
  |str i=>cases e;exact .inr ⟨_,_,rx.str,ry.str,k _ F H (.refl s) rfl⟩
  |_=>cases e
 |_=>cases dx<;>cases e
end
section
variable {ρ:EnvD}{g:EnvD->Option D}{ds:List D}{a:Int}{u v:Bool}{p q:Str}{neg:Bool}
@[simp]theorem R6:gItS g ρ=(g ρ).bind λd=>match d with | .str z=>some (chD z) | _=>none:=rfl
@[simp]theorem Gq:fIn neg (.str p) (.str q)=some (.bl (if neg then !(!(Builtin.Str.occurrences q p 0 q.length 1).isEmpty) else !(Builtin.Str.occurrences q p 0 q.length 1).isEmpty)):=rfl
end
def dKey:D->Option Key
 |.int i=>some (.inl i)
 |.str x=>some (.inr x)
 |_=>none
def kD:Key->D
 |.inl i=>.int i
 |.inr x=>.str x
section
variable {K:KW}{F:Hp}
end
def pK (K:KW):Post (List (Key×D)):=λ_ _ F' H' kvs v=>∃a ob vs,v=.ref a/\H' a=some (DX K.w a ob vs)/\Rkv K F' kvs vs
section
variable {X:Cx}{B:Bs}{e a b c o i:Expr}{es:List Expr}{pos p apos cpos pos':Pos}{g ga gi gv':EnvD->Option D}{gk gk2:EnvD->Option (List (Key×D))}{gs gxs:EnvD->Option (List D)}{x:Str}
end
section
variable {X:Cx}{B:Bs}{e a b c o i:Expr}{es:List Expr}{pos p apos cpos pos':Pos}{g ga gi gv':EnvD->Option D}{gk gk2:EnvD->Option (List (Key×D))}{gs:EnvD->Option (List D)}{gxs:EnvD->Option (List En)}{x:Str}
variable {k n:Nat}{m:List En->Option En}
end
section
variable {K:KW}{F:Hp}
end
section
variable {X:Cx}{B:Bs}{e a b c o i tg:Expr}{es:List Expr}{pos p apos cpos pos':Pos}{g ga gi gv':EnvD->Option D}{gk gk2:EnvD->Option (List (Key×D))}{gs:EnvD->Option (List D)}{x:Str}
end
section
variable {X:Cx}{B:Bs}{e a b c o i tg:Expr}{es:List Expr}{pos p apos cpos pos':Pos}{g ga gi gv':EnvD->Option D}{gk gk2:EnvD->Option (List (Key×D))}{gs:EnvD->Option (List D)}{x:Str}
end
def kc (H:Hp)(a:Addr):Hp:=λb=>if b=a then none else H b
def lSp (K:KW)(n:Nat)(m:Addr->List (Key×D)->List En->Option (List (Key×D))):Sp:=λvs H Q _=>
 ∃F kvs xs kvs' a ob ws us,vs=.ref a::us/\Same F H/\F a=none/\H a=some (DX K.w a ob ws)/\Rkv K F kvs ws/\xs.length+1=n/\Paired (λx v=>ArgE K F (kc H a) x v) xs us/\m a kvs xs=some kvs' /\
  ∀F' H' ob' ws',Ext F (kc H a) F' H'->H' a=some (DX K.w a ob' ws')->F' a=none->Rkv K F' kvs' ws'->Q .non H'
section
variable {P:Program}{w:World}{K:PySem.W.Frag}{mg:Str->Option Value}{base:Heap}
structure Lx (P:Program)(w:World)(K:PySem.W.Frag)(mg:Str->Option Value)(base:Heap)(x:Str)(k n:Nat)(m:List (Key×D)->List En->Option (List (Key×D))):Prop where
 ex:∃f fd ps m',FnOk P w K mg base CX0 k f fd ps (lSp ⟨K,w⟩ n m')/\mg x=some (.ref f)/\keepIn K (.ref f)=true/\Binds K fd ps []/\∀a kvs xs,xs.length+1=n->m' a kvs xs=m kvs xs
end
section
variable {X:Cx}{B:Bs}{es:List Expr}{pos p p1 cpos:Pos}{gxs:EnvD->Option (List En)}{x y:Str}{k n:Nat}{m:List (Key×D)->List En->Option (List (Key×D))}
end
def fRep:D->D->Option (List D)
 |.lst ds,.int k=>if k.natAbs<=100000/\ds.length * k.toNat<=TOP then some (List.replicate k.toNat ds).flatten else none
 |_,_=>none
theorem Rps.rep {K:KW}{F:Hp}{ds:List D}{vs:List V}(r:Rps K F ds vs):∀n,Rps K F (List.replicate n ds).flatten (List.replicate n vs).flatten
 |0=>rfl
 |n+1=>by
  rw[List.replicate_succ,List.flatten_cons,List.replicate_succ,List.flatten_cons]
  exact r.append (Rps.rep r n)
theorem Jb {K:KW}:OkR K rRep (pA K) fRep:=by
 intro F H x y dx dy d Q s rx ry e k
 unfold fRep at e
 split at e
 ·rename_i ds n
  split at e
  ·rename_i hc
   cases e
   obtain⟨a,vs,rfl,h1,h2⟩:=rx.lst s
   cases ry.int
   refine⟨a,n,vs,rfl,rfl,h1,by omega,by omega,yF (by rw[<-h2.length];exact hc.2),λp hp=>k _ F _ (.new s hp) ⟨p,_,rfl,hp,zm,s.free hp,h2.rep _⟩⟩
  ·cases e
 ·cases e
section
variable {X:Cx}{B:Bs}{a b:Expr}{pos:Pos}{ga gb:EnvD->Option D}
theorem Ji (ha:DR X B a ga)(hb:DR X B b gb):DA X B (.BinOp a .Mult b pos) (g2 fRep ga gb):=ZR WO Jb ha hb
end
section
variable {ρ:EnvD}{i j n:Nat}{d:D}{ds:List D}{kvs:List (Key×D)}{oa:Option Addr}{gi g:EnvD->Option D}{gk gk2:EnvD->Option (List (Key×D))}{gs:EnvD->Option (List D)}
@[simp]theorem Gs {x:Str}:dKey (.str x)=some (.inr x):=rfl
@[simp]theorem GW {k:Int}:dKey (.int k)=some (.inl k):=rfl
@[simp]theorem Uu {k:Int}:fRep (.lst ds) (.int k)=if k.natAbs<=100000/\ds.length * k.toNat<=TOP then some (List.replicate k.toNat ds).flatten else none:=rfl
end
end Dv
namespace L4
open PySem PySem.Spec L2 L3
open PyProof.Rows hiding St
end L4
namespace Dv
open PySem PySem.Spec L2 L3 L4
open PyProof.Rows hiding St
section
variable {X:Cx}{B:Bs}{e a b c o i tg st:Expr}{es elts:List Expr}{pos p p2 apos cpos pos' tpos:Pos}{tk:Nat}{g ga gi gv':EnvD->Option D}{gk gk2:EnvD->Option (List (Key×D))}{gs:EnvD->Option (List D)}{gxs:EnvD->Option (List En)}{x:Str}
def mN (m:List En->Option En):List En->Option En:=λxs=>m (xs++[.val .non])
end
structure FunD (K:PySem.W.Frag)(x qual:Str)(st:Stmt)(f:Addr)(fd:FuncData):Prop where
 ex:∃(oc dV:Value) (od:Option Addr) (kV doc pm:Value) (an:Option Addr) (cdv ct:Value) (osl:Array (Option Value)),
  fd=fnOf x qual (zu st) (zq st) (ze st) dV kV doc pm an cdv ct/\K.lookup f=some ⟨oc,od,.func fd,osl⟩/\codeIn K cdv qual=true
 kp:keepIn K (.ref f)=true
section
variable {P:Program}{w:World}{K:PySem.W.Frag}{mg:Str->Option Value}{base:Heap}
structure FxN (P:Program)(w:World)(K:PySem.W.Frag)(mg:Str->Option Value)(base:Heap)(x:Str)(k n:Nat)(m:List En->Option En):Prop where
 ex:∃f fd ps,FnOk P w K mg base CX0 k f fd ps (pSp ⟨K,w⟩ n (len? n m))/\mg x=some (.ref f)/\keepIn K (.ref f)=true/\Binds K fd ps [.none]
end
section
variable {X:Cx}{B:Bs}{e:Expr}{es:List Expr}{pos p:Pos}{gxs:EnvD->Option (List En)}{x:Str}{k n:Nat}{m:List En->Option En}
end
section
variable {ρ:EnvD}{g gi:EnvD->Option D}{m:List En->Option En}{xs:List En}
@[simp]theorem GJ:mN m xs=m (xs++[.val .non]):=rfl
end
section
variable {X:Cx}{B:Bs}{e c tg iter:Expr}{pos p1 p2:Pos}{ge:EnvD->Option D}{t:EnvD->Option Bool}{gi:EnvD->Option (List D)}{gbd:SD}
end
end Dv
namespace L4
open PySem PySem.Spec L2 L3
open PyProof.Rows hiding St
section
variable {prog:Program}{w:World}{A:Around}{E:Value->Shared->Prop}{s:Shared}
end
section
variable {X:Cx}{o a b:Expr}{pos p2:Pos}{to ta tb:TE}
end
end L4
namespace Dv
open PySem PySem.Spec L2 L3 L4
open PyProof.Rows hiding St
section
variable {X:Cx}{B:Bs}{e ae be:Expr}{p p2 tpos pos:Pos}{ga gb:EnvD->Option D}{gl:EnvD->Option (List D)}{x:Str}
end
section
variable {X:Cx}{B:Bs}{hb:Hp->Hp}{e a b c o tg:Expr}{es:List Expr}{pos p p2 apos cpos:Pos}{g ga gb go:EnvD->Option D}{gs:EnvD->Option (List D)}{x:Str}
end
section
variable {X:Cx}{B:Bs}{hb:Hp->Hp}{e a b c o tg:Expr}{es:List Expr}{pos p p2 apos cpos:Pos}{g ga gb go:EnvD->Option D}{gs:EnvD->Option (List D)}{x:Str}
end
end Dv
namespace L4
open PySem PySem.Spec L2 L3
open PyProof.Rows hiding St
section
variable {prog:Program}{w:World}{A:Around}{E:Value->Shared->Prop}{s:Shared}{T:String}{r d:Addr}{n:Nat}{P:Nat->Value->Prop}{OK:Heap->Prop}
end
end L4
namespace Dv
open PySem PySem.Spec L2 L3 L4
open PyProof.Rows hiding St
section
variable {X:Cx}{B:Bs}{o:Expr}{pos p:Pos}{gk:EnvD->Option (List (Key×D))}{x:Str}
end
section
variable {K:KW}{B:Bs}{F H:Hp}{σ:St}{ρ:EnvD}
end
section
variable {X:Cx}{B:Bs}{tg e ck:Expr}{es:List Expr}{x y nm:Str}{pos p2 p3 p4 p5 apos cpos:Pos}{id:String}{r:V->List V->Hp->VK->Prop}{f:List D->List D->Option (List D)}{gs:EnvD->Option (List D)}{dd:List D}
end
end Dv
namespace L4
open PySem PySem.Spec L2 L3
open PyProof.Rows hiding St
section
variable {prog:Program}{w:World}{A:Around}{E:Value->Shared->Prop}{s:Shared}
end
section
variable {X:Cx}{a:Expr}{ta:TA}{p p2 pos pos2:Pos}
end
end L4
namespace Dv
open PySem PySem.Spec L2 L3 L4
open PyProof.Rows hiding St
section
variable {X:Cx}{B:Bs}{a:Expr}{p p2 pos pos2:Pos}{gs:EnvD->Option (List D)}
end
theorem ArgE.mono {K:KW}{F H F' H':Hp}(f:Same F F')(h:Same H H'):∀ {x:En} {v:V},ArgE K F H x v->ArgE K F' H' x v
 |.val _,_,r=>Rp.mono f r
 |.bor _,_,⟨a,vs,e1,e2,e3⟩=>⟨a,vs,e1,h _ _ e2,e3.mono f⟩
 |.acc _,_,r=>r
 |.oac _ _ _ _ _,_,r=>r
 |.tre _,_,r=>r
 |.dct _ _,_,r=>r
 |.dbo _,_,⟨a,ob,vs,e1,e2,e3⟩=>⟨a,ob,vs,e1,h _ _ e2,e3.mono f⟩
 |.exn _,_,r=>r
 |.obw _ _ _,_,r=>r
 |.mbo _,_,r=>RepM.ext f h r
section
variable {X:Cx}{B:Bs}{e:Expr}{es:List Expr}{pos p:Pos}{g:EnvD->Option En}{gxs:EnvD->Option (List En)}{x:Str}
def scal:D->Bool
 |.int _=>true
 |.bl _=>true
 |.non=>true
 |.str _=>true
 |_=>false
variable {k n:Nat}{m:List En->Option En}
end
section
variable {K:KW}{B:Bs}{F H:Hp}{σ:St}{ρ:EnvD}
end
section
variable {X:Cx}{B:Bs}{e ck ck0 ck1:Expr}{x y z:Str}{pos pos1 pos2 p p1 p2 p3 p4 p5 p6 p7 pos' apos cpos:Pos}{g:EnvD->Option D}
end
section
variable {X:Cx}{B:Bs}{e:Expr}{es:List Expr}{pos p:Pos}{gxs:EnvD->Option (List En)}{x:Str}{k n:Nat}{m:List En->Option En}
end
section
variable {X:Cx}{B:Bs}{e:Expr}{pos:Pos}{g:EnvD->Option D}
end
section
variable {X:Cx}{B:Bs}{tg iter elt:Expr}{ifs:List Expr}{pos:Pos}{gi:EnvD->Option OT}
end
section
variable {X:Cx}{B:Bs}{o:Expr}{apos cpos pos p:Pos}{x:Str}{td:TE}
end
end Dv
namespace L6
open PySem PySem.Spec L2 L3 L4
open PyProof.Rows hiding St
def tupO (vs:List Value):Obj:={ cls:=.type "tuple",data:=.seq vs.toArray }
def excO (C t:Addr):Obj:={ cls:=.ref C,data:=.fields #[.ref t,.none,.none,.none,.bool false,.none] }
def made (H:Heap)(C:Addr)(vs:List Value):Heap:=(H.push (tupO vs)).push (excO C H.objs.size)
section
variable {H:Heap}{C M:Addr}{vs:List Value}
theorem yW {a:Addr}{o:Obj}(q:H.get? a=some o):(made H C vs).get? a=some o:=Heap.get?_push_of_some _ (Heap.get?_push_of_some _ q)
theorem jk:(made H C vs).get? (H.objs.size+1)=some { cls:=.ref C,data:=.fields #[.ref H.objs.size,.none,.none,.none,.bool false,.none] }:=by unfold made excO tupO;heap_get
theorem kH {m:Str->Option Value}(q:H.Ns M m):(made H C vs).Ns M m:=by
 obtain⟨o,x,y,z,r⟩:=q
 exact⟨o,x,y,yW z,r⟩
theorem Jp:Heap.MadeExcOf H (made H C vs) (H.objs.size+1) (.ref C) vs :=
 ⟨λ_ _ q=>yW q,Heap.get?_none_of_le (Nat.le_succ _),H.objs.size,jk,Heap.get?_none_of_le (Nat.le_refl _),Heap.get?_push_of_some _ (Heap.get?_push_at rfl rfl)⟩
end
section
variable {P:Program}{w:World}{A:Around}{E:Value->Shared->Prop}{H:Heap}{g:Array GenState}{dr:Drawn}{t:Nat}{os:OsState}{C N fI:Addr}{oI:Obj}{vs:List Value}{mN:Str->Option Value}
variable {nm q:Str}{bs bm bb:List Value}{hd:Bool}{sn:List Str}{sb:List Value}{ab:Bool}{col:Option Bool}{dl:Option Addr}{k0 k1 k2 k3 k5:Option Value}{b0 nid iid:String}
theorem Qm (F:ExcBaseFacts b0 nid iid bb)(T:OwnTail H bb bm){Q:Fin->Shared->Prop}(c:H.get? C=some (excClassObj nm q C N bs bm hd sn sb ab col dl k0 k1 k2 k3 k5 nid))(n:H.Ns N mN)(i:mN "__init__" = some (.ref fI)) (a:H.get? fI=some oI) (ac:oI.cls=.type "function")
  (k:∀h' e,H.objs.size<=e->Heap.MadeExcOf H h' e (.ref C) vs->wpAny (model P w) A (call (.ref fI) (.ref e::vs)) (λr s=>r=.none/\Q (.done (.ret (.ref e))) s) E ⟨h',g,dr,t,os⟩) (few:vs.length<=sizeLine) :
  wpAny (model P w) A (Builtin.«type.__call__» ⟨.ref C::vs,[]⟩) Q E ⟨H,g,dr,t,os⟩:=by
 have me:(Value.ref C::bm).contains (.ref C)=true:=List.contains_iff_mem.mpr (.head _)
 have c':=yW (C:=C) (vs:=vs) c
 have T':=T.keeps (h':=made H C vs) λ_ _ z=>yW z
 repeat
  first
   |with_reducible refine wpAny_loadPart_at c ?_
   |with_reducible refine wpAny_madeBy_exc c ?_
   |wp_step
 apply codeAny_call_builtin_code (Code.quiet_builtin _ F.quiet)
 apply wpAny_check_new_subT F T c
 refine codeAny_exc_new_subT F T c ?_ few
 show wpAny (model P w) A _ _ _ ⟨made H C vs,g,dr,t,os⟩
 unfold isInstance
 repeat
  first
   |with_reducible refine wpAny_loadPart_at jk ?_
   | (with_reducible refine wpAny_isSubtype_exc c' ?_;rw[me])
   |wp_step
 show wpAny (model P w) A (typeLookup (.ref C) "__init__") _ _ _
 apply wpAny_typeLookup_tail c' (kH n) T' F.mroIs F.init.lookup
 rw[i]
 apply wpAny_holding
 apply wpAny_bind
 unfold bindSpecial
 refine wpAny_bind (wpAny_typeOf (T := "function") ⟨oI,yW a,ac⟩ ?_)
 rw[if_pos (by decide)]
 refine wpAny_pure (wpAny_bind (wpAny_mono (k _ _ (Nat.le_succ _) Jp) (λr s z=>?_) λ_ _ z=>z))
 obtain⟨rfl,z⟩:=z
 wp_walk
 exact z
theorem Zk (F:ExcBaseFacts b0 nid iid bb)(T:OwnTail H bb bm){Q:Value->Shared->Prop}(c:H.get? C=some (excClassObj nm q C N bs bm hd sn sb ab col dl k0 k1 k2 k3 k5 nid))(n:H.Ns N mN)(i:mN "__init__" = some (.ref fI)) (a:H.get? fI=some oI) (ac:oI.cls=.type "function")
  (k:∀h' e,H.objs.size<=e->Heap.MadeExcOf H h' e (.ref C) vs->wpAny (model P w) (A.under (.builtin "type.__call__" ⟨.ref C::vs,[]⟩)) (call (.ref fI) (.ref e::vs)) (λr s=>r=.none/\Q (.ref e) s) E ⟨h',g,dr,t,os⟩) (few:vs.length<=sizeLine) :
  wpAny (model P w) A (call (.ref C) vs) Q E ⟨H,g,dr,t,os⟩:=by
 have ty:(⟨H,g,dr,t,os⟩:Shared).TypeIs (.ref C) "type" := ⟨_,c,rfl⟩
 have l1:=tc_lookup
 have l2:=tc_bind (.ref C)
 apply wpAny_call
 apply codeAny_of_tree
 show wpAny (model P w) _ (callAny (.ref C) ⟨vs,[]⟩) _ _ _
 repeat
  any_goals first
   |assumption
   |with_reducible refine wpAny_loadPart_at c ?_
   |wp_step
 refine⟨rfl,codeAny_call_builtin_at (Code.quiet_builtin _ (by decide +kernel)) entry_typeCall (wpAny_check_type_call_sub c ?_)⟩
 exact Qm (few:=few) F T c n i a ac λh' e l m=>k h' e l m
end
def Trc (h:Heap)(e:Addr)(c:Value)(dd:Option Addr)(a0:Value)(T:Option Addr):Prop :=
 ∃oe vs,h.get? e=some oe/\oe.cls=c/\oe.dict=dd/\oe.data=.fields vs/\vs[0]?=some a0/\(T=none->vs[1]?=some .none) /\
  ∀t,T=some t->vs[1]?=some (.ref t)/\t≠e/\∃oT ts,h.get? t=some oT/\oT.data=.fields ts/\ts[3]?=some .none
def Kpt (S:List Addr)(e:Addr)(T:Option Addr)(h h':Heap):Prop :=
 ∀b o,b≠e->T≠some b->h.get? b=some o->(b∉S->h'.get? b=some o)/\∃sl,h'.get? b=some { o with slots:=sl }
theorem J0 (f:Array Value->Array Value)(o:Obj):(Obj.mapFields f o).dict=o.dict:=by
 obtain⟨c,d,dt,sl⟩:=o
 cases dt<;>rfl
section
variable {M:Model}{A:Around}{E:Value->Shared->Prop}{s:Shared}
end
def CX1 (P:Program)(w:World):CXT:=λouter H s E e s'=>∃ea C dd a0 T H',e=.ref ea/\s'.os=s.os/\AllBare s'.gens/\Un (frs outer) [] H H' s.heap s'.heap/\HOk P w H' s'.heap /\
 Trc s'.heap ea C dd a0 (some T)/\s.heap.objs.size<=ea/\s.heap.objs.size<=T/\H' ea=none/\H' T=none/\E C dd H'
section
variable {P:Program}{w:World}{K:PySem.W.Frag}{mg:Str->Option Value}{base:Heap}{N:List Str}{qual:Str}{scope:Scope}{f:Addr}{cd:Value}{A:Around}{outer:List Env}{s:Shared}{H:Hp}{E:XK}
end
section
variable {prog:Program}{w:World}{A:Around}{E:Value->Shared->Prop}{s:Shared}{K:PySem.W.Frag}{x dx C f:Addr}{mA:Str->Option Value}{name:Str}{v:Value}
abbrev vB:List Value:=[.type "ValueError",.type "Exception",.type "BaseException",.type "object"]
theorem Qn {h:Heap}{tl:List Value}(self:Value)(T:OwnTail h vB tl):refuseLoop self "__setattr__" tl=pure ():=by
 induction T with
 |base=>exact PySem.F.store_ValueError.passes self
 |own _ _ _ _ ih=>rw[refuseLoop_ref];exact ih
theorem Ze {R:Result->Shared->Prop}{ox:Obj}{od:Option Obj}{tk:Tok}{cd:ClassData}{bm:List Value}(X:K.In s.heap)(I:InstAt s.heap x ox C od)(hc:clsIn K C=some cd)(hmr:cd.mro=.ref C::bm)(T:OwnTail s.heap vB bm)(ht:takerIn K C name=some none)
  (h:∀b,wpAny (model prog w) A.in1 (Builtin.ObjectAttr.storeInOwnDict (.ref x) (.ref C) (.str name tk) name v b)
   (λfin s'=>match fin with | .done f=>R (.ok f) s' | .again c'=>c'.quiet=true/\codeAny (model prog w) A c' R s') (λe s'=>R (.error e) s') s) :
  codeAny (model prog w) A (.call (.builtin "object.__setattr__") ⟨[.ref x,.str name tk,v],[]⟩) R s:=by
 have SF:=PySem.F.store_object
 have cn:cd.mro.contains (.type "object")=true:=by rw[hmr,List.contains_cons,T.hasType (b:=true) (by decide),Bool.or_true]
 have sub:Looks (model prog w) s.heap (isInstance (.ref x) (.type "object")) true:=I.type.andThen (PySem.W.looks_mroIn X (by unfold PySem.W.mroIn;rw[hc,Option.bind_some,if_neg (by rw[hmr];simp),cn]))
 refine codeAny_call_builtin SF.slot.plain SF.entry (@PySem.W.check_slot (model prog w) _ _ s "object.__setattr__" "object" "__setattr__" (.ref x) [.str name tk,v] [] _ SF.kind SF.split sub (SF.args (.ref x) (.str name tk) v) ?_)
 obtain⟨attr,ha,hr⟩:=Option.bind_eq_some_iff.mp ht
 have hm:Looks (model prog w) s.heap (mroOf (.ref C)) cd.mro:=(PySem.W.looks_clsIn X hc).andThen .now
 have L3:Looks (model prog w) s.heap (Builtin.ObjectAttr.storeTaker? attr) none:=by
  cases attr with
  |none=>exact .now
  |some a=>
   obtain⟨b,hb,hb2⟩:=Option.map_eq_some_iff.mp hr
   refine (PySem.W.looks_takesIn X hb).andThen ?_
   cases b
   ·exact .now
   ·cases hb2
 rw[PySem.W.osa_eq,refuse_eq]
 refine wpAny_bind (wpAny_bind (I.type.here (wpAny_bind (hm.here ?_))))
 rw[hmr,refuseLoop_ref,Qn _ T]
 refine wpAny_pure (wpAny_bind (I.type.here (wpAny_bind ((looks_findIn X ha).here (wpAny_bind (L3.here ?_))))))
 exact h _
theorem VC {cd0:ClassData}{bm:List Value}(hc0:clsIn K C=some cd0)(hmr:cd0.mro=.ref C::bm){ox:Obj}{fs:Array Value}{Q:Unit->Shared->Prop}(X:K.In s.heap)(ho:s.heap.get? x=some ox)(hc:ox.cls=.ref C)(hd:ox.dict=none)(hf:ox.data=.fields fs)
  (hs:findIn K (.ref C) "__setattr__" = some (some (.builtin "object.__setattr__"))) (T:OwnTail s.heap vB bm) (ht:takerIn K C name=some none) (hh:hasDictIn K C=true)
  (h:∀h',h'.get? x=some { ox with dict:=some s.heap.objs.size }->h'.Ns1 s.heap.objs.size (λy=>if y=name then some v else none)->(∀b o,b≠x->s.heap.get? b=some o->h'.get? b=some o)->Q () { s with heap:=h',toks:=s.toks+2 }) :
  wpAny (model prog w) A (setAttr (.ref x) name v) Q E s:=by
 have J:InstAt s.heap x ox C none:=⟨ho,hc,by unfold PySem.W.notCls;rw[hf],by rw[hd];trivial⟩
 refine PySem.W.set_plain X J hs (Ze (s:={ s with toks:=s.toks+1 }) X J hc0 hmr T ht λb=>?_)
 obtain⟨cd,hcd,hd'⟩:=PySem.W.any_some hh
 obtain⟨oc,odi,oda,osl⟩:=ox
 dsimp only at hc hd hf
 subst hc hd hf
 refine wpAny_bind (wpAny_pure (wpAny_bind (wpAny_bind (wpAny_loadPart ho (wpAny_bind (PySem.W.Looks.here (s:={ s with toks:=s.toks+1 }) (PySem.W.looks_clsIn X hcd) ?_))))))
 rw[hd']
 have hx1:(s.heap.push { cls:=.type "dict",data:=.dict #[] }).get? x=some ⟨.ref C,none,.fields fs,osl⟩:=Heap.get?_push_of_some _ ho
 have hxs:x≠s.heap.objs.size:=Nat.ne_of_lt (Heap.lt_size ho)
 rw[if_neg (by decide)]
 dsimp only
 rw[if_neg (by simp[typeHasDict])]
 refine wpAny_bind (wpAny_alloc' ?_)
 refine wpAny_bind (wpAny_update' hx1 ?_)
 refine wpAny_pure ?_
 have hgd:((s.heap.push { cls:=.type "dict",data:=.dict #[] }).update x λo=>{ cls:=o.cls,dict:=some s.heap.objs.size,data:=o.data,slots:=o.slots }).get? s.heap.objs.size
   = some { cls:=.type "dict",data:=.dict #[] }:=(Heap.get?_update_ne _ _ _ _ hxs.symm).trans (Heap.get?_push_at rfl rfl)
 have hnd:((s.heap.push { cls:=.type "dict",data:=.dict #[] }).update x λo=>{ cls:=o.cls,dict:=some s.heap.objs.size,data:=o.data,slots:=o.slots }).Ns s.heap.objs.size (λ_=>none) :=
  ⟨_,#[],_,hgd,rfl,λe he=>absurd he (by simp),λ_=>rfl⟩
 show wpAny _ _ (Builtin.ObjectAttr.storeInDict s.heap.objs.size (.str name s.toks) name v) _ _ _
 unfold Builtin.ObjectAttr.storeInDict Builtin.ObjectAttr.newKeyGuard
 refine wpAny_bind (wpAny_pure (wpAny_bind (wpAny_nsSet1 (Heap.Ns1.of_empty hnd) λh' hn' hs=>?_)))
 obtain⟨oD,esD,epD,hoD,hdD,hcD⟩:=hn'.count (Within.cons name v Within.nil)
 refine wpAny_bind (wpAny_lookBehind hoD (by rw[hdD];exact pastItsLine_dict (Nat.le_trans hcD (by rw[List.length_cons,List.length_nil,sizeLine_eq];omega))) ?_)
 refine wpAny_pure (h h' ?_ hn' λb o hbx hb=>?_)
 ·refine (hs.2 x hxs).trans (Heap.get?_update_self _ hx1 ?_)
  rfl
 ·exact (hs.2 b (Nat.ne_of_lt (Heap.lt_size hb))).trans ((Heap.get?_update_ne _ _ _ _ hbx).trans (Heap.get?_push_of_some _ hb))
theorem JB {ox:Obj}{fs:Array Value}{tk:Tok}{Q:Fin->Shared->Prop}{h:Heap}{g:Array GenState}{d:Drawn}{t:Nat}{os:OsState}(X:K.In h)(ho:h.get? x=some ox)(hc:ox.cls=.ref C)(hd:ox.dict=some dx)(hf:ox.data=.fields fs)(hn:h.Ns1 dx mA)
  (ha:findIn K (.ref C) name=some none) (hh:hasDictIn K C=true) (hv:mA name=some v) (hv':PySem.W.handedIn v=true) (hq:Q (.done (.ret v)) ⟨h,g,d,t,os⟩) :
  wpAny (model prog w) A (Builtin.«object.__getattribute__» ⟨[.ref x,.str name tk],[]⟩) Q E ⟨h,g,d,t,os⟩:=by
 obtain⟨cd,hcd,hd'⟩:=PySem.W.any_some hh
 have L1:=looks_findIn (M:=model prog w) X ha
 have L2:=PySem.W.looks_clsIn (M:=model prog w) X hcd
 have hv2:handedOut v=pure v:=PySem.W.handedOut_of hv'
 obtain⟨oc,odi,oda,osl⟩:=ox
 dsimp only at hc hd hf
 subst hc hd hf
 unfold Builtin.«object.__getattribute__»
 repeat (any_goals (first | assumption | with_reducible refine wpAny_loadPart_at ho ?_ | with_reducible refine L1.at ?_ | with_reducible refine L2.at ?_ | (with_reducible refine wpAny_nsGet hn.ns ?_;rw[hv]) | rw[hv2] | wp_step))
theorem Vl {ox:Obj}{fs:Array Value}{tk:Tok}{R:Result->Shared->Prop}{h:Heap}{g:Array GenState}{d:Drawn}{t:Nat}{os:OsState}(X:K.In h)(ho:h.get? x=some ox)(hc:ox.cls=.ref C)(hd:ox.dict=some dx)(hf:ox.data=.fields fs)(hn:h.Ns1 dx mA)
  (hsub:subIn K (.ref C) (.type "BaseException")=some true)
  (ha:findIn K (.ref C) name=some none) (hh:hasDictIn K C=true) (hv:mA name=some v) (hv':PySem.W.handedIn v=true) (hq:R (.ok (.ret v)) ⟨h,g,d,t,os⟩) :
  codeAny (model prog w) A (.call (.builtin "BaseException.__getattribute__") ⟨[.ref x,.str name tk],[]⟩) R ⟨h,g,d,t,os⟩:=by
 refine codeAny_call_builtin PySem.F.attrBase_ValueError.ga.plain PySem.F.entry_bexc_ga ?_
 have J:Looks (model prog w) h (typeOf (.ref x)) (.ref C):=by
  intro A' Q' E' s' k q
  unfold typeOf
  refine wpAny_bind (wpAny_loadPart (k _ _ ho) ?_)
  rw[hc]
  exact wpAny_pure q
 refine @PySem.W.check_slot (model prog w) _ _ ⟨h,g,d,t,os⟩ "BaseException.__getattribute__" "BaseException" "__getattribute__" (.ref x) [.str name tk] [] _ (by decide +kernel) (by decide +kernel) (J.andThen (PySem.W.looks_subIn X hsub)) (PySem.F.args_bexc_ga (.ref x) (.str name tk)) ?_
 exact JB X ho hc hd hf hn ha hh hv hv' hq
theorem Km {ox:Obj}{fs:Array Value}{expr:Bool}{Q:Value->Shared->Prop}(X:K.In s.heap)(ho:s.heap.get? x=some ox)(hc:ox.cls=.ref C)(hd:ox.dict=some dx)(hf:ox.data=.fields fs)(hn:s.heap.Ns1 dx mA)
  (hsub:subIn K (.ref C) (.type "BaseException")=some true) (hga:findIn K (.ref C) "__getattribute__" = some (some (.builtin "BaseException.__getattribute__"))) (hgt:findIn K (.ref C) "__getattr__" = some none)
  (ha:findIn K (.ref C) name=some none) (hh:hasDictIn K C=true) (hv:mA name=some v) (hv':PySem.W.handedIn v=true) (hq:Q v { s with toks:=s.toks+1 }) :
  wpAny (model prog w) A (getAttr (.ref x) name expr) Q E s:=by
 obtain⟨h,g,d,t,os⟩:=s
 have L1:=looks_findIn (M:=model prog w) X hga
 have L2:=looks_findIn (M:=model prog w) X hgt
 have f3:=PySem.F.attrBase_ValueError.ga.bind (.ref x)
 have hv2:handedOut v=pure v:=PySem.W.handedOut_of hv'
 have hx0:(expr&&onTheHeap (Value.builtin "BaseException.__getattribute__"))=false:=by cases expr<;>rfl
 have hx2:(Value.builtin "BaseException.__getattribute__" == Value.builtin "object.__getattribute__")=false:=by decide +kernel
 have hx1:(onTheHeap (Value.ref C)&&Value.builtin "BaseException.__getattribute__" == Value.builtin "object.__getattribute__")=false:=by rw[hx2];rfl
 unfold getAttr getAttrBy
 repeat (any_goals (first | assumption | (with_reducible refine wpAny_loadPart_at ho ?_;rw[hc]) | with_reducible refine L1.at ?_ | with_reducible refine L2.at ?_ | rw[hv2] | wp_step))
 refine Vl X ho hc hd hf hn hsub ha hh hv hv' ?_
 repeat (any_goals (first | assumption | rw[hv2] | wp_step))
end
structure XC (K:PySem.W.Frag)(C HE fI:Addr)(fd:Str):Prop where
 cls:∃dd cd k0 k1 k2 k3 k5 bm,K.lookup C=some ⟨.type "type",dd,.cls cd,#[k0,k1,k2,k3,some (.builtin "ValueError.__new__"),k5]⟩/\cd.mro=.ref C::bm/\cd.hasDel=false /\
  PySem.W.tailIn K vB bm=true/\PySem.W.nsOkIn K cd.ns=true/\nsIn K cd.ns "__init__" = some (some (.ref fI))
 fn:∃o,K.lookup fI=some o/\o.cls=.type "function"
 kp:keepIn K (.ref C)=true
 sa:findIn K (.ref C) "__setattr__" = some (some (.builtin "object.__setattr__"))
 tk:takerIn K C fd=some none
 hd:hasDictIn K C=true
 sub:subIn K (.ref C) (.type "BaseException")=some true
 subH:subIn K (.ref C) (.ref HE)=some true
 ga:findIn K (.ref C) "__getattribute__" = some (some (.builtin "BaseException.__getattribute__"))
 gt:findIn K (.ref C) "__getattr__" = some none
 na:findIn K (.ref C) fd=some none
 rd:PySem.W.readsIn K HE (.type "type")=true
 fc:PySem.W.findCls K (.ref HE) (.type "type") "__init__" = some (.val (.builtin "ValueError.__init__"))
 sp:PySem.W.specialIn K (.ref HE) "__getattribute__" = some (some (.builtin "type.__getattribute__"))
section
variable {K:PySem.W.Frag}{C HE fI:Addr}{fd:Str}{h:Heap}
theorem VA {N:Addr}{mg:Str->Option Value}{n:Str}{v:Value}(X:K.In h)(G:h.Ns N mg)(e:nsIn K N n=some (some v)):mg n=some v:=by
 obtain⟨o,es,ep,ho,hd,_,hf⟩:=G
 unfold nsIn at e
 split at e
 ·rename_i q
  have:=X _ _ q
  rw[ho] at this
  cases this
  cases hd
  split at e
  ·rename_i en he
   cases e
   rw[<-hf]
   unfold nsFind findBy
   rw[<-Array.find?_toList,he]
   rfl
  ·split at e<;>cases e
 ·cases e
theorem XC.at (x:XC K C HE fI fd)(X:K.In h):∃nm q N bs bm hdct sn sub ab col dd k0 k1 k2 k3 k5 mN,h.get? C=some (excClassObj nm q C N bs bm hdct sn sub ab col dd k0 k1 k2 k3 k5 "ValueError.__new__")/\h.Ns N mN/\mN "__init__" = some (.ref fI)/\OwnTail h vB bm:=by
 obtain⟨dd,cd,k0,k1,k2,k3,k5,bm,e,m,hdel,ht,hok,hi⟩:=x.cls
 obtain⟨nm,bs,mro,ns,qn,hd,sn,sub,ab,col,del⟩:=cd
 dsimp only at m hdel hok hi
 subst m hdel
 have G:h.Ns ns (h.nsMap ns):=.of_isNs (PySem.W.isNs_of_in X hok)
 refine⟨nm,qn,ns,bs,bm,hd,sn,sub,ab,col,dd,k0,k1,k2,k3,k5,_,X _ _ e,G,?_,PySem.W.tail_of_in X ht⟩
 exact VA X G hi
end
section
variable {prog:Program}{w:World}{A:Around}{E:Value->Shared->Prop}{h:Heap}{g:Array GenState}{d:Drawn}{t:Nat}{os:OsState}
variable {nm q:Str}{C N:Addr}{bs bm bmB:List Value}{hdct:Bool}{sn:List Str}{sub:List Value}{ab:Bool}{col:Option Bool}{dd:Option Addr}{k0 k1 k2 k3 k5:Option Value}{B newId initId:String}
theorem jB (F:ExcBaseFacts B newId initId bmB)(T:OwnTail h bmB bm){e ta:Addr}{rest:List Value}{Q:Value->Shared->Prop}
  (hC:h.get? C=some (excClassObj nm q C N bs bm hdct sn sub ab col dd k0 k1 k2 k3 k5 newId)) (he:h.get? e=some { cls:=.ref C,data:=.fields #[.ref ta,.none,.none,.none,.bool false,.none] }) (hrest:rest.length<=sizeLine)
  (hq:∀h',h'.get? e=some { cls:=.ref C,data:=.fields #[.ref h.objs.size,.none,.none,.none,.bool false,.none] }->(∀b o,b≠e->h.get? b=some o->h'.get? b=some o)->Q .none ⟨h',g,d,t,os⟩) :
  wpAny (model prog w) A (call (.builtin initId) (.ref e::rest)) Q E ⟨h,g,d,t,os⟩:=by
 refine wpAny_call (codeAny_call_builtin F.init.plain F.initEntry (wpAny_check_init_subT F T hC he rfl ?_))
 wp_walk
 refine hq _ ?_ λb o hb q=>?_
 ·exact Heap.get?_update_self _ (Heap.get?_push_of_some _ he) rfl
 ·rw[Heap.get?_update_other _ _ (Ne.symm hb)]
  exact Heap.get?_push_of_some _ q
end
def ExO (e C t:Addr)(dd:Option Addr):HO:=.ext λh=>h.get? e=some { cls:=.ref C,dict:=dd,data:=.fields #[.ref t,.none,.none,.none,.bool false,.none] }
theorem xQ {P:Program}{w:World}{H:Hp}{h:Heap}{e C t:Addr}{dd:Option Addr}(q:h.get? e=some { cls:=.ref C,dict:=dd,data:=.fields #[.ref t,.none,.none,.none,.bool false,.none] }):ObjOk P w H h e (ExO e C t dd) :=
 ⟨q,⟨_,q⟩,λ_ _ p k=>k _ p⟩
def xiSp (C:Addr)(fd:Str):Sp:=λvs H Q _=>∃e v t,vs=[.ref e,v]/\H e=some (ExO e C t none)/\∀t' dx,H dx=none->dx≠e->Q .non (upd (upd H e (ExO e C t' (some dx))) dx (.xd [(fd,v)]))
section
variable {X:Cx}{C HE fI:Addr}{fd x:Str}{pos p apos pa pb pos':Pos}{a b:Expr}{ta tb:TE}
def tBase (C:Addr)(t:TA):TE:=λσ H Q=>t σ H λvs H2=>∃e v t,vs=[.ref e,v]/\H2 e=some (ExO e C t none)/\∀t',Q .non (upd H2 e (ExO e C t' none))
theorem xu {pl:Sem Bool}{t:TA}(xc:XC X.K C HE fI fd)(hg:Gl X x)(hm:X.mg x=some (.ref HE))(ha:PA X [a,b] t)
  (hdb:(x==("__debug__" : Str))=false:=by decide)
  (hst:starEach [a,b] X.env=(false,eval a X.env)::starEach [b] X.env:=by rfl) (hpl:(backTo pos (starEach [b] X.env)).any (·.1)=false:=by rfl)
  (ht:eval (.Call (.Attribute (.Name x p) "__init__" apos) [a,b] [] pos) X.env=(do
   let ov <-eval (.Name x p) X.env
   standAt apos.atName
   let (f,first) <-holding [ov] (getMethod ov "__init__" pl)
   callWith pos f first (backTo pos (starEach [a,b] X.env)) (backToKw pos (keywordEach [] X.env))):=by rfl) :
  PE X (.Call (.Attribute (.Name x p) "__init__" apos) [a,b] [] pos) (tBase C t):=by
 intro pins s σ H Q I h
 refine PySem.W.methodCall_KW (pl:=pl) (yv I hg hm ?_ hdb) ht
 refine PySem.W.method_cls I.kIn xc.sp (PySem.W.cls_value I.kIn xc.rd xc.fc rfl ?_)
 have I0:=I.tok (s.toks+1)
 refine callWith_method1 (first:=[]) (thn (ha pos pins _ σ H _ I0 h) λus s1 ⟨vs,H1,I1,r1,q1⟩=>?_) hst hpl
 obtain⟨e,v,t0,rfl,he,q⟩:=q1
 cases r1 with
 | @cons _ u1 _ _ ru r2=>
 cases r2 with
 | @cons _ u2 _ _ rv r3=>
 cases r3
 obtain rfl:u1=Value.ref e:=ru
 obtain⟨nm,qq,N,bs,bm,hdct,sn,sub,ab,col,dd,k0,k1,k2,k3,k5,mN,hC,hN,hi,T⟩:=xc.at I1.kIn
 have he':=(I1.hok e _ he).1
 obtain⟨hh,g,d,tk,os⟩:=s1
 refine jB PySem.F.excBase_ValueError T hC he' (by rw[List.length_cons,List.length_nil,sizeLine_eq];omega) λh' k1' k2'=>?_
 refine⟨.non,_,I1.write (x:=e) (e:=e) (o:=ExO e C hh.objs.size none) (h':=h') (t':=tk) (by rw[he];exact True.intro) (.inl rfl) (λb u hb z=>k2' b u hb z) ⟨_,k1'⟩ (xQ k1'),rfl,q _⟩
def sFirst (C:Addr)(fd:Str)(ta tv:TE):TS:=λD σ H=>tv σ H λy H1=>ta σ H1 λx H2=>∃e t,x=.ref e/\H2 e=some (ExO e C t none)/\∀dx,H2 dx=none->dx≠e->D.nx σ (upd (upd H2 e (ExO e C t (some dx))) dx (.xd [(fd,y)]))
theorem XC.clsOf {K:PySem.W.Frag}{C HE fI:Addr}{fd:Str}{h:Heap}(x:XC K C HE fI fd)(X:K.In h):∃cd bm,clsIn K C=some cd/\cd.mro=.ref C::bm/\OwnTail h vB bm:=by
 obtain⟨dd,cd,k0,k1,k2,k3,k5,bm,e,m,hdel,ht,hok,hi⟩:=x.cls
 exact⟨cd,bm,by unfold clsIn;rw[e],m,PySem.W.tail_of_in X ht⟩
theorem yY {o value:Expr}{tv:TE}(xc:XC X.K C HE fI fd)(ha:PE X o ta)(hv:PE X value tv)(hs:swapsWith value (some (.Attribute o fd pos')) pos.line X.env=pure false):PS X (.Assign [.Attribute o fd pos'] value pos) (sFirst C fd ta tv):=by
 intro pins s σ H D I h
 refine plainObj_wpAny_Assign_Attribute (thn (hv pins s σ H _ I h) λu s1 ⟨y,H1,I1,ry,q⟩=>thn (ha pins s1 σ H1 _ I1 q) λov s2 ⟨x,H2,I2,rx,e,t,ex,ee,q2⟩=>?_) hs
 subst ex
 obtain rfl:ov=Value.ref e:=rx
 have he:=(I2.hok e _ ee).1
 have hn:H2 s2.heap.objs.size=none:=I2.hok.fresh (Nat.le_refl _)
 have hne:s2.heap.objs.size≠e:=λz=>by rw[z,ee] at hn;cases hn
 obtain⟨cd0,bm0,hc0,hm0,T0⟩:=xc.clsOf I2.kIn
 refine VC hc0 hm0 I2.kIn he rfl rfl rfl xc.sa T0 xc.tk xc.hd λh' h1 h2 h3=>⟨σ,_,?_,q2 s2.heap.objs.size hn hne⟩
 have hm:Mut (H2 e):=by rw[ee];exact True.intro
 have U:Un X.fs [] H2 (upd H2 e (ExO e C t (some s2.heap.objs.size))) s2.heap h':=Un.write hm (.inl rfl) (λb u hb q=>h3 b u hb q) ⟨_,h1⟩
 have O:HOk X.prog X.w (upd H2 e (ExO e C t (some s2.heap.objs.size))) h':=I2.hok.write hm (.inl rfl) (λb u hb q=>h3 b u hb q) ⟨_,h1⟩ (xQ h1)
 have hn':upd H2 e (ExO e C t (some s2.heap.objs.size)) s2.heap.objs.size=none:=by rw[zf hne];exact hn
 refine I2.un (h':=h') (t':=s2.toks+2) ⟨U.keep,U.slot,λb o q n hx=>?_,U.there,λb xs q=>?_,λb o xs q=>?_,λb ps q=>?_⟩ λa o q=>?_
 ·rw[zf (Nat.ne_of_lt (Heap.lt_size q))];exact U.free b o q n hx
 ·rw[zf (zI q hn)];exact U.tups b xs q
 ·rw[zf (zI q hn)];exact U.frzs b o xs q
 ·rw[zf (zI q hn)];exact U.tbls b ps q
 ·by_cases ha:a=s2.heap.objs.size
  ·subst ha
   rw[zm] at q
   cases q
   refine⟨_,h2,λf=>?_⟩
   by_cases hf:f=fd
   ·subst hf
    rw[if_pos rfl]
    simp only[List.lookup,beq_self_eq_true]
    exact ry
   ·rw[if_neg hf]
    have:(f==fd)=false:=by simpa using hf
    simp only[List.lookup,this]
    exact True.intro
  ·rw[zf ha] at q
   exact (O a o q).stay (λb u _ z=>z) (λb z=>by rw[zf (zI z hn')];exact z) λb xs z=>by rw[zf (zI z hn')];exact z
end
def del (H:Hp)(e:Addr):Hp:=λb=>if b=e then none else H b
theorem j3 {H:Hp}{e b:Addr}(h:b≠e):del H e b=H b:=by unfold del;rw[if_neg h]
theorem jA {H:Hp}{e:Addr}:del H e e=none:=by unfold del;rw[if_pos rfl]
theorem WR {X:Cx}{pins:List (Addr×Obj)}{σ:St}{H:Hp}{s:Shared}{e:Addr}{φ:Heap->Prop}(I:Inv X pins σ H s)(he:H e=some (.ext φ)):Inv X pins σ (del H e) s:=by
 have no:∀ {b:Addr},H b=none->del H e b=none:=fun {b} n=>by
  by_cases q:b=e
  ·rw[q];exact jA
  ·rw[j3 q];exact n
 have ke:∀ {b:Addr} {u:HO},H b=some u->(∀φ,u≠.ext φ)->del H e b=some u:=fun {b u} n d=>by
  have:b≠e:=λz=>by rw[z,he] at n;cases n;exact d _ rfl
  rw[j3 this];exact n
 have u:=I.base
 refine⟨I.ok,I.os,I.bare,⟨u.keep,u.slot,λb o q n hx=>no (u.free b o q n hx),u.there,λb xs q=>ke (u.tups b xs q) (λ_ z=>nomatch z),λb o xs q=>ke (u.frzs b o xs q) (λ_ z=>nomatch z),λb ps q=>?_⟩,I.loc,I.cell,no I.free,λx c q=>no (I.freeC x c q),λp hp=>?_,λa o q=>?_,I.len⟩
 ·obtain⟨m,z⟩:=u.tbls b ps q
  exact⟨m,ke z λ_ z=>nomatch z⟩
 ·obtain⟨a1,a2,a3⟩:=I.pin p hp
  exact⟨a1,no a2,a3⟩
 ·have hne:a≠e:=λz=>by rw[z,jA] at q;cases q
  rw[j3 hne] at q
  exact (I.hok a o q).stay (λb u _ z=>z) (λb z=>ke z λ_ z=>nomatch z) λb xs z=>ke z λ_ z=>nomatch z
section
variable {M:Model}{A:Around}{E:Value->Shared->Prop}{s:Shared}{env:Env}
variable {nm q:Str}{C N:Addr}{bs bm:List Value}{hdct:Bool}{sn:List Str}{sub:List Value}{ab:Bool}{col:Option Bool}{dd:Option Addr}{k0 k1 k2 k3 k5:Option Value}{newId:String}
theorem JL {x:Sem Value}{Q:Flow->Shared->Prop}(hbase:bm.contains (.type "BaseException")=true) (hh:A.handled=none)
  (h:wpAny M A x (λv s₁=>∃e t ed,v=.ref e/\s₁.heap.get? C=some (excClassObj nm q C N bs bm hdct sn sub ab col dd k0 k1 k2 k3 k5 newId) /\
   s₁.heap.get? e=some { cls:=.ref C,dict:=ed,data:=.fields #[.ref t,.none,.none,.none,.bool false,.none] }/\E (.ref e) s₁) E s) :
  wpAny M A (raiseStmt env (some x) none) Q E s:=by
 have hcB:(Value.ref C::bm).contains (.type "BaseException")=true:=by rw[List.contains_cons,hbase,Bool.or_true]
 unfold raiseStmt
 refine wpAny_bind (wpAny_mono h (λv s₁ h₁=>?_) λ_ _ x=>x)
 obtain⟨e,t,ed,rfl,hC,he,hE⟩:=h₁
 obtain⟨hp,g,d,tk,os⟩:=s₁
 repeat (first | with_reducible refine wpAny_loadPart_at he ?_ | with_reducible refine wpAny_loadPart_at hC ?_ | (with_reducible refine wpAny_isSubtype_exc hC ?_;rw[hcB]) | wp_step)
 exact wpAny_raiseNew_none hh hE
end
section
variable {X:Cx}{C HE fI:Addr}{fd x:Str}{pos p cpos:Pos}{a:Expr}{t:TA}{k:Nat}{f0:FuncData}{ps:List Str}
theorem Je {pins:List (Addr×Obj)}{σ:St}{H:Hp}{s:Shared}{u:Value}{v:V}{Q:Value->Shared->Prop}(xc:XC X.K C HE fI fd)(F:FnOk X.prog X.w X.K X.mg X.base CX0 k fI f0 ps (xiSp C fd))(hr:Room (k+1) X.A)(hb:Binds X.K f0 ps [])
  (I:Inv X pins σ H s) (r:RelV v u)
  (h:∀e t dx s',Inv X pins σ (upd (upd (upd H e (ExO e C t none)) e (ExO e C t (some dx))) dx (.xd [(fd,v)])) s'->H e=none->H dx=none->dx≠e->s.heap.objs.size<=e->Q (.ref e) s') :
  wpAny (model X.prog X.w) X.A (call (.ref C) [u]) Q X.xe s:=by
 obtain⟨nm,qq,N,bs,bm,hdct,sn,sub,ab,col,dd,k0,k1,k2,k3,k5,mN,hC,hN,hi,T⟩:=xc.at I.kIn
 obtain⟨oI,hfI,hfc⟩:=xc.fn
 obtain⟨hh,g,d,tk,os⟩:=s
 refine Zk PySem.F.excBase_ValueError T hC hN hi (I.kIn _ _ hfI) hfc (λh' e hl hm=>?_) (by rw[List.length_cons,List.length_nil,sizeLine_eq];omega)
 obtain⟨t,he,htn,ht⟩:=hm.there
 have I2:Inv X pins σ (upd H e (ExO e C t none)) ⟨h',g,d,tk,os⟩:=I.laid (a:=e) (o:=ExO e C t none) (h':=h') (t':=tk) (λb o q=>hm.keeps b o q) hl (xQ he)
 have hne:H e=none:=I.hok.fresh hl
 have r2:Vals [V.ref e,v] [Value.ref e,u]:=.cons rfl (.cons r .nil)
 have hsp:xiSp C fd [V.ref e,v] (upd H e (ExO e C t none)) (λv' H2=>v'=.non/\∃t' dx,H dx=none/\dx≠e/\H2=upd (upd (upd H e (ExO e C t none)) e (ExO e C t' (some dx))) dx (.xd [(fd,v)])) E0 :=
  ⟨e,v,t,rfl,zm,λt' dx hdx hde=>⟨rfl,t',dx,by rw[zf hde] at hdx;exact hdx,hde,rfl⟩⟩
 have hl2:([Value.ref e,u]++([]:List Value)).length=ps.length:=by
  have:=F.len _ _ _ _ hsp
  simpa using this
 refine wpAny_call (codeAny_mono (F.run _ X.stack _ _ ⟨[Value.ref e,u],[]⟩ [Value.ref e,u] _ _ E0 (hr.make C [u] []) (I2.env0.make C [u] []) (by have:=hb ⟨h',g,d,tk,os⟩ [Value.ref e,u] I2.kIn hl2;simpa using this) r2 hsp) λr s' hq'=>?_)
 cases r with
 |error e=>exact False.elim hq'
 |ok fl=>
  cases fl with
  |ret u'=>
   obtain⟨v',H',I3,rv,ev,t',dx,e1,e2,e3⟩:=I2.after hq'
   subst ev e3
   refine⟨rv,h e t' dx s' ?_ hne e1 e2 hl⟩
   have:upd (upd H e (ExO e C t none)) e (ExO e C t' (some dx))=upd (upd H e (ExO e C t' none)) e (ExO e C t' (some dx)):=by rw[yS,yS]
   rw[<-this];exact I3
  |next=>exact False.elim hq'
  |brk=>exact False.elim hq'
  |cont=>exact False.elim hq'
end
section
variable {P:Program}{w:World}{K:PySem.W.Frag}{mg:Str->Option Value}{base:Heap}{N:List Str}{qual:Str}{scope:Scope}{f:Addr}{cd:Value}{A:Around}{outer:List Env}{s0:Shared}{H0:Hp}{E:XK}
variable {X:Cx}{C HE fI:Addr}{fd x:Str}{pos p cpos:Pos}{a:Expr}{t:TA}{k:Nat}{f0:FuncData}{ps:List Str}
end
theorem J2 {M:Model}{h:Heap}{e C:Addr}{oe:Obj}(he:h.get? e=some oe)(hc:oe.cls=.ref C):Looks M h (typeOf (.ref e)) (.ref C):=by
 intro A' Q' E' s' k q
 unfold typeOf
 refine wpAny_bind (wpAny_loadPart (k _ _ he) ?_)
 rw[hc]
 exact wpAny_pure q
section
variable {K:PySem.W.Frag}{e C M:Addr}
structure XM (K:PySem.W.Frag)(C M:Addr):Prop where
 sub:subIn K (.ref C) (.ref M)=some true
 nt:PySem.W.instIn K (.ref M) (.type "tuple")=some false
 cls:(clsIn K M).isSome=true
 exc:subIn K (.ref M) (.type "BaseException")=some true
theorem WQ {prog:Program}{w:World}{A:Around}{E:Value->Shared->Prop}{s:Shared}{Q:Bool->Shared->Prop}{oe:Obj}(xm:XM K C M)(X:K.In s.heap)(he:s.heap.get? e=some oe)(hc:oe.cls=.ref C)(h:Q true s) :
  wpAny (model prog w) A (excMatches (.ref e) (.ref M)) Q E s:=by
 obtain⟨hh,g,d,t,os⟩:=s
 have L0:=PySem.W.looks_instIn (M:=model prog w) X xm.nt
 have L1:=J2 (M:=model prog w) he hc
 have L2:=PySem.W.looks_subIn (M:=model prog w) X xm.sub
 have L3:=PySem.W.looks_subIn (M:=model prog w) X xm.exc
 have L4:Looks (model prog w) hh (isType (.ref M)) true:=by
  have z0:=xm.cls
  unfold clsIn at z0
  split at z0
  ·rename_i c' d' cd' sl' ho
   intro A' Q' E' s' k q
   unfold isType loadHead
   exact wpAny_bind (wpAny_loadPart (k _ _ (X _ _ ho)) (wpAny_pure q))
  ·cases z0
 unfold excMatches isExcClass
 repeat (first | with_reducible refine L0.at ?_ | with_reducible refine L1.at ?_ | with_reducible refine L2.at ?_ | with_reducible refine L3.at ?_ | with_reducible refine L4.at ?_ | wp_step)
 all_goals first | exact h | skip
end
section
variable {X:Cx}{pins:List (Addr×Obj)}{σ:St}{H:Hp}{s:Shared}{h':Heap}{e:Addr}{T:Option Addr}
def Own (X:Cx)(pins:List (Addr×Obj))(H:Hp)(b:Addr):Prop:=X.s₀.heap.objs.size<=b/\b≠X.env.locals/\(∀x c,X.env.cells.lookup x=some c->c≠b)/\(∀p∈X.pn++pins,p.1≠b)/\H b=none/\b∉X.fs
theorem vI {s1:Shared}{H1:Hp}(I:Inv X pins σ H1 s1){b:Addr}(h:s1.heap.objs.size<=b)(n:H b=none):Own X pins H b:=by
 refine⟨Nat.le_trans I.sz h,Nat.ne_of_gt (Nat.lt_of_lt_of_le I.lt h),λx c q=>?_,λp hp=>?_,n,I.nofs h⟩
 ·obtain⟨v,o,ho,_⟩:=I.cell x c q
  exact Nat.ne_of_lt (Nat.lt_of_lt_of_le (Heap.lt_size ho) h)
 ·exact Nat.ne_of_lt (Nat.lt_of_lt_of_le (Heap.lt_size (I.pin p hp).1) h)
theorem qT (I:Inv X pins σ H s)(K:Kpt (frs X.stack) e T s.heap h')(h1:Own X pins H e)(h2:∀t,T=some t->Own X pins H t):Inv X pins σ H { s with heap:=h' }:=by
 have sub:∀b,b∈frs X.stack->b=X.env.locals∨b∈X.fs:=λb hb=>List.mem_cons.mp (I.stkSub b hb)
 have ne:∀b,b∉(e::T.toList)->b≠e/\T≠some b:=λb hb=>by
  refine⟨λz=>hb (by rw[z];exact .head _),λz=>hb ?_⟩
  rw[z];exact .tail _ (.head _)
 have tr:∀b u,H b=some u->b≠e/\T≠some b:=λb u q=>by
  constructor
  ·intro z
   rw[z,h1.2.2.2.2.1] at q
   cases q
  ·intro z
   have:=(h2 b z).2.2.2.2.1
   rw[this] at q
   cases q
 refine I.step (g':=s.gens) (t':=s.toks) (d':=s.drawn) (ch:=e::T.toList) (λb hb=>?_) (λb o hL hf hc q n=>?_) (λb o hL hf hc q n=>?_) (λb o hc q n=>n) (λb o hc q=>?_) (λ_ _ q=>q) (λ_ _ _ q=>q) (λb ps q=>⟨#[],by rw[q];simp⟩) (λm hm=>?_) (λb u q=>?_) I.bare
 ·have:Own X pins H b:=by
   rcases List.mem_cons.mp hb with rfl | z
   ·exact h1
   ·exact h2 b (by cases T with | none=>cases z | some t=>simp at z;rw[z])
  exact⟨.inr this.1,this.2.1,this.2.2.1,this.2.2.2.1⟩
 ·obtain⟨n1,n2⟩:=ne b hc
  exact (K b o n1 n2 q).1 λz=>(sub b z).elim hL hf
 ·obtain⟨n1,n2⟩:=ne b hc
  exact (K b o n1 n2 q).2
 ·obtain⟨n1,n2⟩:=ne b hc
  obtain⟨sl,z⟩:=(K b o n1 n2 q).2
  exact⟨_,z⟩
 ·obtain⟨o,es,ep,ho,r⟩:=hm
  obtain⟨sl,z⟩:=(K _ o (Ne.symm h1.2.1) (λz=>(h2 _ z).2.1 rfl) ho).2
  exact⟨_,es,ep,z,r⟩
 ·refine (I.hok b u q).stay (λc v hc z=>?_) (λ_ z=>z) λ_ _ z=>z
  have hn:∃u',H c=some u':=by
   rcases hc with rfl | z
   ·exact⟨u,q⟩
   ·exact⟨_,z⟩
  obtain⟨u',hu⟩:=hn
  obtain⟨n1,n2⟩:=tr c u' hu
  refine (K c v n1 n2 z).1 λhf=>?_
  rw[I.stkFree c hf] at hu;cases hu
theorem Wn {M:Model}{A:Around}{E:Value->Shared->Prop}{c a0:Value}{dd:Option Addr}{t:Addr}{Q:Unit->Shared->Prop}(ht:Trc s.heap e c dd a0 (some t))
  (h:∀h',Trc h' e c dd a0 (some t)->Kpt [] e (some t) s.heap h'->Q () { s with heap:=h' }):wpAny M A (setFlight (.ref e) none) Q E s:=by
 obtain⟨oe,vs,he,rfl,rfl,hd,h0,hn,hs⟩:=ht
 obtain⟨h1,hte,oT,ts,hT,hdT,h3⟩:=hs t rfl
 have sz:3 < ts.size:=(Array.getElem?_eq_some_iff.mp h3).1
 unfold setFlight
 refine wpAny_bind (wpAny_field he hd h1 ?_)
 rw[if_pos (show (Value.ref t != Value.none)=true from by simp)]
 refine wpAny_setField hT hdT sz (h _ ⟨oe,vs,?_,rfl,rfl,hd,h0,hn,λt' q=>?_⟩ λb o hb hbt q=>?_)
 ·rw[Heap.get?_update_other _ _ hte];exact he
 ·cases q
  refine⟨h1,hte,_,_,Heap.get?_update_self _ hT (Obj.isFreed_of_fields (Obj.data_mapFields hdT _)),Obj.data_mapFields hdT _,?_⟩
  rw[Array.getElem?_setIfInBounds_self_of_lt sz];rfl
 ·have:(s.heap.update t (Obj.mapFields (·.setIfInBounds 3 ((none:Option Addr).elim Value.none λf=>rawInt f)))).get? b=some o:=by
   rw[Heap.get?_update_other _ _ (λz=>hbt (by rw[z]))];exact q
  exact⟨λ_=>this,o.slots,this⟩
theorem Kpt.wide {S S':List Addr}{h h':Heap}(K:Kpt S e T h h')(hs:∀b∈S,b∈S'):Kpt S' e T h h':=λb o n1 n2 q=>⟨λhb=>(K b o n1 n2 q).1 λz=>hb (hs b z),(K b o n1 n2 q).2⟩
theorem VP {M:Model}{A:Around}{E:Value->Shared->Prop}{i:Nat}{n:Str}{pos:Pos}{Q:Unit->Shared->Prop}(I:Inv X pins σ H s)(hN:X.N.Nodup)(hi:X.N[i]?=some n)(hl:X.env.scope.names.lookup n=some .local)
  (h:∀s',Inv X pins (σ.set i none) H s'->Q () s'):wpAny M A (do bindName X.env n .none;unbindBehindTheSuite X.env n pos) Q E s:=by
 refine wpAny_bind (wpAny_bindName (qg (v:=.non) I hN hi (.inl hl) rfl (λs1 I1=>?_) (.inr hl)))
 have hiσ:i < σ.length:=by rw[I.len];exact (List.getElem?_eq_some_iff.mp hi).1
 obtain⟨m,hn,hlk⟩:=id I1.loc
 have hcls:(X.env.scope.kind==.class||(X.env.scope.kind==.module&&X.env.locals != X.env.globals))=false:=by rw[I.ok.kind];rfl
 obtain⟨u,ru,look⟩:=hlk i n .non hi (List.getElem?_set_self hiσ) (.inl hl)
 have hm:m n=some u:=by
  rcases look with⟨_,z⟩ | ⟨z,_⟩
  ·exact z
  ·have z':X.env.scope.names.lookup n=some .cell∨X.env.scope.names.lookup n=some .free:=z
   rw[hl] at z'
   rcases z' with z' | z'<;>cases z'
 unfold unbindBehindTheSuite
 refine wpAny_onRaise (wpAny_unbindName_local hl hn hm hcls λh' w hn' hs=>h _ ?_)
 obtain⟨oL,_,_,hoL,_⟩:=id hn
 have cne:=I1.cne
 refine⟨I1.ok,I1.os,I1.bare,⟨λb o e n hb hx=>?_,λb o e n hb hx=>?_,I1.base.free,λb o e hx=>?_,I1.base.tups,I1.base.frzs,I1.base.tbls⟩,⟨_,hn',λj y v' e1 e2 e3=>?_⟩,λy c e=>?_,I1.free,I1.freeC,λp hp=>?_,λb ob e=>?_,by simpa using I.len⟩
 ·exact (hs.2 b (Nat.ne_of_lt (Nat.lt_of_lt_of_le (Heap.lt_size e) I1.ok.above))).trans (I1.base.keep b o e n hb hx)
 ·obtain⟨sl,e1⟩:=I1.base.slot b o e n hb hx
  exact⟨sl,(hs.2 b (Nat.ne_of_lt (Nat.lt_of_lt_of_le (Heap.lt_size e) I1.ok.above))).trans e1⟩
 ·obtain⟨o',e1⟩:=I1.base.there b o e hx
  exact⟨o',(hs.2 b (Nat.ne_of_lt (Nat.lt_of_lt_of_le (Heap.lt_size e) I1.ok.above))).trans e1⟩
 ·by_cases hj:j=i
  ·subst hj
   rw[List.getElem?_set_self hiσ] at e2
   cases e2
  ·rw[List.getElem?_set_ne (Ne.symm hj)] at e2
   obtain⟨u',r',q⟩:=hlk j y v' e1 (by rw[List.getElem?_set_ne (Ne.symm hj)];exact e2) e3
   refine⟨u',r',?_⟩
   rcases q with⟨k,e⟩ | ⟨k,c,e,z⟩
   ·refine .inl ⟨k,?_⟩
    have:y≠n:=λe=>hj (qk hN e1 (e ▸ hi))
    simp[this,e]
   ·exact .inr ⟨k,c,e,z.sameBut hs (cne y c e)⟩
 ·obtain⟨w',z⟩:=I1.cell y c e
  exact⟨w',z.sameBut hs (cne y c e)⟩
 ·obtain⟨e,n,ne,nf,d⟩:=I1.pin p hp
  exact⟨(hs.2 p.1 ne).trans e,n,ne,nf,d⟩
 ·refine (I1.hok b ob e).stay (λc w' hc q=>(hs.2 c ?_).trans q) (λ_ q=>q) λ_ _ q=>q
  rintro rfl
  have hf:=I1.free
  rcases hc with rfl | hc
  ·rw[hf] at e;cases e
  ·rw[hf] at hc;cases hc
end
def cxE (X:Cx)(ea:Addr)(pn:List (Addr×Obj)):Cx:={ X with A:=X.A.mark (some (.ref ea)),calm:=false,pn:=pn++X.pn,xe:=λ_ _=>False }
section
variable {X:Cx}{pins:List (Addr×Obj)}{σ:St}{H:Hp}{s:Shared}{ea:Addr}{pn:List (Addr×Obj)}
theorem ok_in (ok:X.Ok):(cxE X ea pn).Ok :=
 ⟨ok.mod,ok.kind,ok.glob,ok.blt,ok.above,ok.inj,ok.has,ok.cab,λz=>(nomatch z),ok.frames,ok.stk,ok.exf,ok.bs,ok.bsz,ok.noex,ok.exfs,ok.funs,ok.frf⟩
theorem Z5 (I:Inv X pins σ H s)(h:∀p∈pn,s.heap.get? p.1=some p.2/\H p.1=none/\p.1≠X.env.locals/\p.1∉X.fs/\∀v,p.2.data≠.cell v):Inv (cxE X ea pn) pins σ H s :=
 ⟨ok_in I.ok,I.os,I.bare,I.base,I.loc,I.cell,I.free,I.freeC,λp hp=>by
  have hp':p∈(pn++X.pn)++pins:=hp
  rw[List.append_assoc] at hp'
  rcases List.mem_append.mp hp' with z | z
  ·exact h p z
  ·exact I.pin p z,I.hok,I.len⟩
theorem QC (ok:X.Ok)(I:Inv (cxE X ea pn) pins σ H s):Inv X pins σ H s :=
 ⟨ok,I.os,I.bare,I.base,I.loc,I.cell,I.free,I.freeC,λp hp=>I.pin p (by
  show p∈(pn++X.pn)++pins
  rw[List.append_assoc];exact List.mem_append_right _ hp),I.hok,I.len⟩
end
section
variable {X:Cx}{C MC:Addr}{ie:Nat}{r:St->Hp->(St->XK)->Prop}{ts:Addr->Addr->TS}{body suite:List Stmt}{b0:Stmt}{xM n:Str}{pM hpos pos:Pos}
end
section
variable {X:Cx}{C HE fI ea dx M2:Addr}{oe:Obj}{fd n x y:Str}{ie iy:Nat}{pos p p2 p3 pos2 pos3:Pos}{ta tb:TE}
end
section
variable {X:Cx}{k:Nat}{f:Addr}{f0:FuncData}{ps:List Str}{sp:Sp}{x:Str}{pos p:Pos}{e:Expr}{es:List Expr}{t:TA}{st:Stmt}{rest:List Stmt}{E:XK}
theorem PA.nox {es:List Expr}{t:TA}(h:PA X.nox es t):PA X es t:=λpos pins s σ H Q I hw=>
 wpAny_mono (h pos pins s σ H Q (I.wish _) hw) (λ_ _ ⟨v,H',I',r,q⟩=>⟨v,H',I'.unwish,r,q⟩) λ_ _ z=>False.elim z
theorem PS.nox {st:Stmt}{t:TS}(h:PS X.nox st t):PS X st t:=λpins s σ H D I hw=>
 wpAny_mono (h pins s σ H D (I.wish _) hw) (λ_ _ q=>q.unwish) λ_ _ z=>False.elim z
end
end L6
namespace Dv
open PySem PySem.Spec L2 L3 L4 L6
open PyProof.Rows hiding St
def rSp (K:KW)(C:Addr)(fd:Str)(n:Nat)(m:List En->Option D):Sp:=λvs H _ E=>
 ∃F xs d,Same F H/\xs.length=n/\Paired (λx v=>ArgE K F H x v) xs vs/\m xs=some d/\∀dx v F' H',Ext F H F' H'->H' dx=some (.xd [(fd,v)])->Rp K F' d v->E (.ref C) (some dx) H'
structure Rx (P:Program)(w:World)(K:PySem.W.Frag)(mg:Str->Option Value)(base:Heap)(x:Str)(C:Addr)(fd:Str)(k n:Nat)(m:List En->Option D):Prop where
 ex:∃f f0 ps,FnOk P w K mg base (CX1 P w) k f f0 ps (rSp ⟨K,w⟩ C fd n m)/\mg x=some (.ref f)/\keepIn K (.ref f)=true/\Binds K f0 ps []
section
variable {P:Program}{w:World}{K:PySem.W.Frag}{mg:Str->Option Value}{base:Heap}{N:List Str}{qual:Str}{scope:Scope}{f:Addr}{cd:Value}{A:Around}{outer:List Env}{s0:Shared}{H0:Hp}{E:XK}
variable {X:Cx}{B:Bs}{C HE fI:Addr}{fd x:Str}{pos p cpos:Pos}{a e:Expr}{es:List Expr}{st:Stmt}{rest:List Stmt}{k n:Nat}{g:EnvD->Option D}{gs:SD}{gxs:EnvD->Option (List En)}{m:List En->Option D}{f0:FuncData}{ps:List Str}
end
section
variable {X:Cx}{B:Bs}{C HE fI MC M2:Addr}{fd x:Str}{pos p cpos:Pos}{a e c:Expr}{es:List Expr}{rest sa sb:List Stmt}{k n:Nat}{g ga gb:EnvD->Option D}{gt:EnvD->Option Bool}{gxs:EnvD->Option (List En)}{m:List En->Option D}
theorem K6 {K:KW}{F:Hp}{σ:St}{H:Hp}{ρ:EnvD}{i:Nat}(r:Rep K B F σ H ρ)(h:∀x,ρ[i]?≠some (some x)):Rep K B F (σ.set i none) H ρ:=by
 have ne:∀ {j:Nat} {x:En},ρ[j]?=some (some x)->j≠i:=fun {j x} e z=>by subst z;exact h x e
 refine⟨r.ex,by simp[r.len],λj x e=>?_,λj l y z v w e1 e2 s1 s2 hne=>?_⟩
 ·obtain⟨v,h1,h2⟩:=r.ents j x e
  exact⟨v,by rw[List.getElem?_set_ne (Ne.symm (ne e))];exact h1,h2⟩
 ·rw[List.getElem?_set_ne (Ne.symm (ne e1))] at s1
  rw[List.getElem?_set_ne (Ne.symm (ne e2))] at s2
  exact r.dj j l y z v w e1 e2 s1 s2 hne
variable {xM y n2 xI fx:Str}{ie iy i:Nat}{pM hpos pI pN pC pA pE' pY pK pB pF apos epos:Pos}{body:List Stmt}{nm:Str}
end
structure Exc (P:Program)(w:World)(K:PySem.W.Frag)(mg:Str->Option Value)(base:Heap)(CT HE fI:Addr)(fd xT xH:Str):Prop where
 xc:XC K CT HE fI fd
 xm:XM K CT CT
 xmH:XM K CT HE
 z:kitOne K (.ref CT) (.ref HE)=some true
 zT:kitOne K (.ref CT) (.ref CT)=some true
 mT:mg xT=some (.ref CT)
 mH:mg xH=some (.ref HE)
 ini:∃f0 ps,FnOk P w K mg base CX0 1 fI f0 ps (xiSp CT fd)/\Binds K f0 ps []
section
variable {P:Program}{w:World}{K:PySem.W.Frag}{mg:Str->Option Value}{base:Heap}{N:List Str}{qual:Str}{scope:Scope}{f:Addr}{cd:Value}{A:Around}{outer:List Env}{s0:Shared}{H0:Hp}{E:XK}
variable {B:Bs}{CT HE fI:Addr}{fd xT xH:Str}{pos p cpos:Pos}{a:Expr}{rest:List Stmt}{g:EnvD->Option D}
theorem ym {K:PySem.W.Frag}{v:Value}:kitOne K v v=some true:=by unfold kitOne;rw[if_pos (beq_self_eq_true _)]
theorem yj {K:PySem.W.Frag}{C M:Addr}(h1:PySem.W.isClsIn K M=true)(h2:PySem.W.typeIn K (.ref M)=some (.type "type")) (h3:subIn K (.ref C) (.ref M)=some true):kitOne K (.ref C) (.ref M)=some true:=by
 unfold kitOne
 split
 ·rfl
 ·show (if ((clsIn K M).isSome&&PySem.W.typeIn K (.ref M)==some (.type "type"))=true then subIn K (.ref C) (.ref M) else none)=some true
  have h1:(clsIn K M).isSome=true:=h1
  rw[h1,h2,if_pos (by decide)]
  exact h3
theorem xG {C e t:Addr}{fd:Str}{v:V}{H:Hp}{Q:VK}(q:∀t' dx,H dx=none->dx≠e->Q .non (upd (upd H e (ExO e C t' (some dx))) dx (.xd [(fd,v)])))(t' dx:Addr)(h1:upd H e (ExO e C t' none) dx=none)(h2:dx≠e) :
  Q .non (upd (upd (upd H e (ExO e C t' none)) e (ExO e C t' (some dx))) dx (.xd [(fd,v)])):=by
 rw[yS]
 rw[zf h2] at h1
 exact q t' dx h1 h2
end
section
variable {X:Cx}{B:Bs}{C HE fI MC M2:Addr}{fd x:Str}{pos p cpos:Pos}{gb:EnvD->Option D}
variable {xM y n2 xI fx:Str}{ie iy i:Nat}{pM hpos pI pN pC pA pE' pY pK pB pF apos epos:Pos}{body:List Stmt}{nm:Str}
end
section
variable {P:Program}{w:World}{K:PySem.W.Frag}{mg:Str->Option Value}{base:Heap}{N:List Str}{qual:Str}{scope:Scope}{f:Addr}{cd:Value}{A:Around}{outer:List Env}{s0:Shared}{H0:Hp}{E:XK}
variable {X:Cx}{B:Bs}{C:Addr}{fd x:Str}{pos p cpos lpos:Pos}{e elt tg:Expr}{es ifs:List Expr}{rest:List Stmt}{k n i:Nat}{gxs:EnvD->Option (List En)}{m:List En->Option D}{own:List Str}{cap:List (Str×Nat)}{scp:Scope}
end
end Dv
namespace Dv
open PySem PySem.Spec L2 L3 L4
open PyProof.Rows hiding St
section
variable {X:Cx}{B:Bs}{e o:Expr}{apos cpos:Pos}{go:EnvD->Option D}{gs:EnvD->Option (List D)}
end
open L6
def noStar:Expr->Bool
 |.Starred _ _=>false
 |_=>true
theorem zp {e:Expr}{es:List Expr}{env:Env}(h:noStar e=true):starEach (e::es) env=(false,eval e env)::starEach es env:=by
 cases e<;>first | rfl | (cases h)
def PassS (X:Cx)(E:St->XK):Prop:=∀(pins:List (Addr×Obj)) (σ:St) (H:Hp) (s:Shared) (e:Value) (s':Shared),Inv X pins σ H s->CX1 X.prog X.w X.stack H s (E σ) e s'->X.xe e s'
abbrev Xv:=Str×Option D
def Pd (K:KW)(F H:Hp)(fd:Str)(dd:Option Addr):Option D->Prop
 |none=>dd=none
 |some d=>∃dx v,dd=some dx/\H dx=some (.xd [(fd,v)])/\Rp K F d v
def ySp (K:KW)(ca:Str->Addr)(fd:Str)(n:Nat)(m:List En->Option Xv):Sp:=λvs H _ E=>
 ∃F xs q,Same F H/\xs.length=n/\Paired (λx v=>ArgE K F H x v) xs vs/\m xs=some q/\∀dd F' H',Ext F H F' H'->Pd K F' H' fd dd q.2->E (.ref (ca q.1)) dd H'
structure Ry (P:Program)(w:World)(K:PySem.W.Frag)(mg:Str->Option Value)(base:Heap)(ca:Str->Addr)(fd:Str)(x:Str)(k n:Nat)(m:List En->Option Xv):Prop where
 ex:∃f f0 ps,FnOk P w K mg base (CX1 P w) k f f0 ps (ySp ⟨K,w⟩ ca fd n m)/\mg x=some (.ref f)/\keepIn K (.ref f)=true/\Binds K f0 ps []
def lV (K:KW)(B:Bs)(ca:Str->Addr)(fd:Str)(E:St->XK)(g:EnvD->Option Xv):St->Hp->Prop:=λσ H=>
 Lq K B g σ H λF ρ q=>∀dd F' H',Rep K B F' σ H' ρ->Same F F'->Pd K F' H' fd dd q.2->E σ (.ref (ca q.1)) dd H'
def DV (X:Cx)(B:Bs)(ca:Str->Addr)(fd:Str)(E:St->XK)(e:Expr)(g:EnvD->Option Xv):Prop:=PE X e λσ H _=>lV X.kw B ca fd E g σ H
def lVs (K:KW)(B:Bs)(ca:Str->Addr)(fd:Str)(E:St->XK)(g:EnvD->Option (EnvD×Xv)):St->Hp->Prop:=λσ H=>
 Lq K B g σ H λF ρ q=>∀dd σ' F' H',Rep K B F' σ' H' q.1->Same F F'->Pd K F' H' fd dd q.2.2->E σ' (.ref (ca q.2.1)) dd H'
def DVs (X:Cx)(B:Bs)(ca:Str->Addr)(fd:Str)(E:St->XK)(sts:List Stmt)(g:EnvD->Option (EnvD×Xv)):Prop:=PSs X sts λ_ σ H=>lVs X.kw B ca fd E g σ H
section
variable {X:Cx}{B:Bs}{ca:Str->Addr}{fd x:Str}{E:St->XK}{pos p cpos:Pos}{a b e c:Expr}{es:List Expr}{st:Stmt}{rest sa sb:List Stmt}{k n:Nat}{g ga gb:EnvD->Option Xv}{gd:EnvD->Option D}{gl:EnvD->Option (List D)}{gs:SD}{gt:EnvD->Option Bool}{gxs:EnvD->Option (List En)}{m:List En->Option Xv}{h1 h2:EnvD->Option (EnvD×Xv)}
def yCall (m:List En->Option Xv)(gxs:EnvD->Option (List En)):EnvD->Option Xv:=λρ=>(gxs ρ).bind m
theorem JH (hp:PassS X E)(h:Ry X.prog X.w X.kw X.mg X.base ca fd x k n m)(hn:∀xs o,m xs=some o->xs.length=n)(hr:Room k X.A)(hg:Gl X x)(ha:DNs X.nox B (e::es) gxs)
  (hdb:(x==("__debug__" : Str))=false:=by decide +kernel) (he:starEach (e::es) X.env=(false,eval e X.env)::starEach es X.env:=by rfl) (hpl:(backTo pos (starEach es X.env)).any (·.1)=false:=by rfl) :
  DV X B ca fd E (.Call (.Name x p) (e::es) [] pos) (yCall m gxs):=by
 obtain⟨f,f0,ps,F,hm,hk,hb⟩:=h.ex
 intro pins s σ H Q I h
 obtain⟨F0,ρ,q0,r,hgq,kk⟩:=h
 unfold yCall at hgq
 cases q1:gxs ρ with
 |none=>rw[q1] at hgq;cases hgq
 |some xs=>
  rw[q1] at hgq
  have hgq:m xs=some q0:=hgq
  refine wpAny_Call_Name_kw (yv I hg hm ?_ hdb)
  refine PySem.W.callWith_K (h₀:=X.base) I.ok.mod.kin hk (wpAny_mono (ha pos pins s σ H (λvs H1=>ySp X.kw ca fd n m vs H1 (λ_ _=>False) (E σ)) (I.wish _) ⟨F0,ρ,xs,r,q1,λvs F1 H1 e1 p1=>⟨F1,xs,q0,e1.fh,hn xs q0 hgq,p1,hgq,λdd F' H' e2 pd=>kk dd F' H' (r.ext (e1.trans e2)) (e1.trans e2).ff pd⟩⟩) (λus s1 ⟨vs,H1,I1,rv,q⟩=>⟨I1.kIn,?_⟩) λ_ _ z=>False.elim z) he hpl
  have I1:=I1.unwish
  have hl:(us++([]:List Value)).length=ps.length:=by rw[List.append_nil,<-rv.length];exact F.len _ _ _ _ q
  refine wpAny_call (codeAny_mono (F.run X.A X.stack s1 H1 ⟨us,[]⟩ us vs _ (E σ) hr I1.env0 (by have:=hb s1 us I1.kIn hl;rw[List.append_nil] at this;exact this) rv q) λr s' hq=>?_)
  cases r with
  |error e=>exact hp pins σ H1 s1 e s' I1 hq
  |ok fl=>
   cases fl with
   |ret u=>obtain⟨_,_,_,_,_,_,_,z⟩:=hq;exact z.elim
   |next=>exact False.elim hq
   |brk=>exact False.elim hq
   |cont=>exact False.elim hq
def yAlt {α:Type}(g1 g2:EnvD->Option α):EnvD->Option α:=λρ=>match g1 ρ with
 |some q=>some q
 |none=>g2 ρ
theorem kB (d1:DVs X B ca fd E rest h1)(d2:DVs X B ca fd E rest h2):DVs X B ca fd E rest (yAlt h1 h2):=λpins s σ H D I zz=>zz.el λF ρ q r hg k=>by
 unfold yAlt at hg
 split at hg
 ·rename_i q' hq;cases hg;exact d1 pins s σ H D I ⟨F,ρ,q,r,hq,k⟩
 ·exact d2 pins s σ H D I ⟨F,ρ,q,r,hg,k⟩
def yE (g:EnvD->Option Xv):EnvD->Option (EnvD×Xv):=λρ=>(g ρ).map λq=>(ρ,q)
theorem Kj {K:KW}{σ:St}{H:Hp}(h:lVs K B ca fd E (yE g) σ H):lV K B ca fd E g σ H:=by
 refine Lq.el h λF ρ q r hg k=>?_
 unfold yE at hg
 cases q1:g ρ with
 |none=>rw[q1] at hg;cases hg
 |some q'=>rw[q1] at hg;cases hg;exact⟨F,ρ,q',r,q1,λdd F' H' r' s' pd=>k dd σ F' H' r' s' pd⟩
theorem kF (h:DV X B ca fd E e g)(hs:swapsWith e none pos.line X.env=pure false:=by rfl):DVs X B ca fd E (.Expr e pos::rest) (yE g) :=
 wN (ye (yy h hs) (u:=λ_ _ _=>False) λ_ _ _ _ _ _ z=>z.elim) λ_ _ _ q=>Kj q
def ySeq (gs:SD)(h:EnvD->Option (EnvD×Xv)):EnvD->Option (EnvD×Xv):=λρ=>match gs ρ with
 |some (.next ρ')=>h ρ'
 |_=>none
theorem kx (d1:DS X.nox B st gs)(d2:DVs X B ca fd E rest h2):DVs X B ca fd E (st::rest) (ySeq gs h2) :=
 wN (ye (PS.nox d1) d2) λD σ H zz=>zz.el λF ρ q r hg k=>by
  unfold ySeq at hg
  split at hg
  ·rename_i ρ' q1
   exact⟨F,ρ,_,r,q1,λσ' F' H' r' s'=>⟨F',ρ',q,r',hg,λdd σ2 F2 H2 r2 s2 pd=>k dd σ2 F2 H2 r2 (s'.trans s2) pd⟩⟩
  ·cases hg
def yNo {α:Type}:EnvD->Option α:=λ_=>none
theorem qC:DVs X B ca fd E rest yNo:=λ_ _ _ _ _ _ ⟨_,_,_,_,hg,_⟩=>by cases hg
def yIf (gt:EnvD->Option Bool)(h1 h2:EnvD->Option (EnvD×Xv)):EnvD->Option (EnvD×Xv):=λρ=>(gt ρ).bind λb=>if b=true then h1 ρ else h2 ρ
theorem qi (hc:DT X.nox B c gt)(d1:DVs X B ca fd E sa h1)(d2:DVs X B ca fd E sb h2):DVs X B ca fd E (.If c sa sb pos::rest) (yIf gt h1 h2) :=
 wN (ye (uu (PT.nox hc) d1 d2) (u:=λ_ _ _=>False) λ_ _ _ _ _ _ z=>z.elim) λD σ H zz=>zz.el λF ρ q r hg k=>by
  unfold yIf at hg
  cases q1:gt ρ with
  |none=>rw[q1] at hg;cases hg
  |some b=>
   rw[q1] at hg
   have hg:(if b=true then h1 ρ else h2 ρ)=some q:=hg
   refine⟨F,ρ,b,r,q1,λF1 H1 e1=>?_⟩
   cases b with
   |true=>rw[if_pos rfl] at hg;exact iteT ⟨F1,ρ,q,r.ext e1,hg,λdd σ2 F2 H2 r2 s2 pd=>k dd σ2 F2 H2 r2 (e1.ff.trans s2) pd⟩
   |false=>rw[if_neg (by decide)] at hg;exact iteF ⟨F1,ρ,q,r.ext e1,hg,λdd σ2 F2 H2 r2 s2 pd=>k dd σ2 F2 H2 r2 (e1.ff.trans s2) pd⟩
end
end Dv
namespace L6
open PySem PySem.Spec L2 L3 L4
open PyProof.Rows hiding St
def Trf (h:Heap)(e:Addr)(c:Value)(dd:Option Addr)(a0:Value)(T:Option Addr):Prop :=
 ∃oe vs,h.get? e=some oe/\oe.cls=c/\oe.dict=dd/\oe.data=.fields vs/\vs[0]?=some a0/\(T=none->vs[1]?=some .none) /\
  ∀t,T=some t->vs[1]?=some (.ref t)/\t≠e/\∃oT ts fl,h.get? t=some oT/\oT.data=.fields ts/\ts[3]?=some fl
theorem Trc.free {h:Heap}{e:Addr}{c:Value}{dd:Option Addr}{a0:Value}{T:Option Addr}(t:Trc h e c dd a0 T):Trf h e c dd a0 T:=by
 obtain⟨oe,vs,h1,h2,h3,h4,h5,h6,h7⟩:=t
 exact⟨oe,vs,h1,h2,h3,h4,h5,h6,λt q=>let ⟨a,b,oT,ts,c,d,e⟩:=h7 t q;⟨a,b,oT,ts,_,c,d,e⟩⟩
section
variable {M:Model}{A:Around}{E:Value->Shared->Prop}{s:Shared}
theorem ub {base:Heap}{env:Env}{outer:List Env}{L e:Addr}{oe:Obj}{vs:Array Value}{head a0:Value}{hadNext:Bool}{Q:Unit->Shared->Prop}
  (hfr:A.frames=some (env::outer)) (hl:s.heap.FunFrames base (env::outer)) (hf:env.frame=some L)
  (he:s.heap.get? e=some oe) (hd:oe.data=.fields vs) (hsz:1 < vs.size) (h0:vs[0]?=some a0)
  (h:∀h' T,Trf h' e oe.cls oe.dict a0 (some T)->s.heap.objs.size<=T->Kpt (frs (env::outer)) e none s.heap h'->Q () { s with heap:=h' }) :
  wpAny M A (do let a <-frameOf env;let pl <-entryPlaceOf L hadNext;let b <-EntryCells.newEntry head a .none (rawInt L) .none pl;setField (.ref e) 1 b) Q E s:=by
 have hene:e∉(env::outer).filterMap (·.frame):=λhm=>by
  obtain⟨_,o,ho,hnf⟩:=hl.mem hm
  rw[he] at ho;cases ho;exact hnf vs hd
 refine wpAny_bind (wpAny_frameOf_fun hfr hl hf λh1 hs1=>?_)
 refine wpAny_bind (wpAny_entryPlaceOf λpl hpl=>?_)
 unfold EntryCells.newEntry newFields
 refine wpAny_bind (wpAny_newObj_type ?_ (hpl.sizeOk5 _ _ _ _ _))
 generalize hoT:({ cls:=.type "traceback",dict:=none,data:=.fields ([head,.ref L,.none,rawInt L,.none]++(if pl.isEmpty then List.replicate 6 Value.none else pl)).toArray }:Obj)=oT
 have dT:oT.data=.fields ([head,.ref L,.none,rawInt L,.none]++(if pl.isEmpty then List.replicate 6 Value.none else pl)).toArray:=by rw[<-hoT]
 have nfT:oT.isFreed=false:=by rw[<-hoT];rfl
 have he1:h1.get? e=some oe:=(hs1.2.1 e hene).trans he
 have he2:=Heap.get?_push_of_some (h:=h1) oT he1
 have hTe:h1.objs.size≠e:=Nat.ne_of_gt (Heap.lt_size he1)
 refine wpAny_setField he2 hd hsz ?_
 have hd3:=Obj.data_mapFields hd (·.setIfInBounds 1 (Value.ref h1.objs.size))
 have he3:=Heap.get?_update_self (Obj.mapFields (·.setIfInBounds 1 (Value.ref h1.objs.size))) he2 (Obj.isFreed_of_fields hd3)
 have hT3:=(Heap.get?_update_other (h1.push oT) (Obj.mapFields (·.setIfInBounds 1 (Value.ref h1.objs.size))) (Ne.symm hTe)).trans (Heap.get?_push_size h1 nfT)
 refine h _ h1.objs.size ⟨_,_,he3,Obj.cls_mapFields _ _,J0 _ _,hd3,?_,λq=>(nomatch q),λt q=>?_⟩ (Nat.le_of_eq hs1.1.symm) ?_
 ·rw[Array.getElem?_setIfInBounds_ne (by decide)];exact h0
 ·cases q
  exact⟨by simp[hsz],hTe,_,_,rawInt L,hT3,dT,by simp⟩
 ·intro b o hbe _ hb
  have keep:∀u,h1.get? b=some u->((h1.push oT).update e (Obj.mapFields (·.setIfInBounds 1 (Value.ref h1.objs.size)))).get? b=some u:=λu hu=>by
   rw[Heap.get?_update_other _ _ (Ne.symm hbe)]
   exact Heap.get?_push_of_some _ hu
  refine⟨λhS=>keep o ((hs1.2.1 b hS).trans hb),?_⟩
  obtain⟨sl,q⟩:=hs1.2.2 b o hb
  exact⟨sl,keep _ q⟩
theorem noteF {base:Heap}{env:Env}{outer:List Env}{L e:Addr}{c a0:Value}{dd T:Option Addr}{Q:Unit->Shared->Prop}
  (hfr:A.frames=some (env::outer)) (hl:s.heap.FunFrames base (env::outer)) (hf:env.frame=some L) (ht:Trf s.heap e c dd a0 T)
  (h:∀h' T',Trf h' e c dd a0 (some T')->(s.heap.objs.size<=T'∨T=some T')->Kpt (frs (env::outer)) e T s.heap h'->Q () { s with heap:=h' }):wpAny M A (noteFrame (.ref e) env) Q E s:=by
 have ht0:=ht
 obtain⟨oe,vs,he,rfl,rfl,hd,h0,hn,hs⟩:=ht
 unfold noteFrame
 simp only[hf]
 cases T with
 |none=>
  have h1:=hn rfl
  refine wpAny_bind (wpAny_field he hd h1 ?_)
  rw[if_neg (by decide)]
  exact ub hfr hl hf he hd (Array.getElem?_eq_some_iff.mp h1).1 h0 λh' T' a b=>h h' T' a (.inl b)
 |some t=>
  obtain⟨h1,hte,oT,ts,fl,hT,hdT,h3⟩:=hs t rfl
  refine wpAny_bind (wpAny_field he hd h1 ?_)
  rw[if_pos (show (Value.ref t != Value.none)=true from by simp)]
  refine wpAny_bind (wpAny_field hT hdT h3 ?_)
  by_cases hfl:(fl==rawInt L)=true
  ·rw[if_pos hfl]
   exact wpAny_pure (h s.heap t ht0 (.inr rfl) λb o _ _ q=>⟨λ_=>q,o.slots,q⟩)
  rw[if_neg hfl]
  refine wpAny_bind (wpAny_setField hT hdT (Array.getElem?_eq_some_iff.mp h3).1 ?_)
  have other:∀b,b≠t->(s.heap.update t (Obj.mapFields (·.setIfInBounds 3 Value.none))).get? b=s.heap.get? b:=λb hb=>Heap.get?_update_other _ _ (Ne.symm hb)
  have ne:∀b o,s.heap.get? b=some o->(∀ws,o.data≠.fields ws)->b≠t:=λb o hb hnf q=>by
   subst q;rw[hT] at hb;cases hb;exact hnf ts hdT
  refine ub hfr (hl.of_keeps λb o hb hnf=>⟨o,(other b (ne b o hb hnf)).trans hb,rfl⟩) hf ((other e (Ne.symm hte)).trans he) hd (Array.getElem?_eq_some_iff.mp h1).1 h0 λh' T' k1 k2 k3=>h h' T' k1 (.inl ?_) ?_
  ·have:(s.heap.update t (Obj.mapFields (·.setIfInBounds 3 Value.none))).objs.size=s.heap.objs.size:=by simp[Heap.update]
   rw[<-this];exact k2
  ·exact λb o hbe hbt hb=>k3 b o hbe (by simp) ((other b λq=>hbt (by rw[q])).trans hb)
theorem kQ {e t:Addr}{c a0:Value}{dd fo:Option Addr}{Q:Unit->Shared->Prop}(ht:Trf s.heap e c dd a0 (some t))
  (h:∀h',Trf h' e c dd a0 (some t)->(fo=none->Trc h' e c dd a0 (some t))->Kpt [] e (some t) s.heap h'->Q () { s with heap:=h' }):wpAny M A (setFlight (.ref e) fo) Q E s:=by
 obtain⟨oe,vs,he,rfl,rfl,hd,h0,hn,hs⟩:=ht
 obtain⟨h1,hte,oT,ts,fl,hT,hdT,h3⟩:=hs t rfl
 have sz:3 < ts.size:=(Array.getElem?_eq_some_iff.mp h3).1
 unfold setFlight
 refine wpAny_bind (wpAny_field he hd h1 ?_)
 rw[if_pos (show (Value.ref t != Value.none)=true from by simp)]
 have he':(s.heap.update t (Obj.mapFields (·.setIfInBounds 3 (fo.elim Value.none λf=>rawInt f)))).get? e=some oe:=by rw[Heap.get?_update_other _ _ hte];exact he
 have hT':=Heap.get?_update_self (Obj.mapFields (·.setIfInBounds 3 (fo.elim Value.none λf=>rawInt f))) hT (Obj.isFreed_of_fields (Obj.data_mapFields hdT _))
 have h3':(ts.setIfInBounds 3 (fo.elim Value.none λf=>rawInt f))[3]?=some (fo.elim Value.none λf=>rawInt f):=Array.getElem?_setIfInBounds_self_of_lt sz
 refine wpAny_setField hT hdT sz (h _ ⟨oe,vs,he',rfl,rfl,hd,h0,hn,λt' q=>?_⟩ (λhfo=>⟨oe,vs,he',rfl,rfl,hd,h0,hn,λt' q=>?_⟩) λb o hb hbt q=>?_)
 ·cases q
  exact⟨h1,hte,_,_,_,hT',Obj.data_mapFields hdT _,h3'⟩
 ·cases q
  subst hfo
  exact⟨h1,hte,_,_,hT',Obj.data_mapFields hdT _,h3'⟩
 ·have:(s.heap.update t (Obj.mapFields (·.setIfInBounds 3 (fo.elim Value.none λf=>rawInt f)))).get? b=some o:=by
   rw[Heap.get?_update_other _ _ (λz=>hbt (by rw[z]))];exact q
  exact⟨λ_=>this,o.slots,this⟩
end
def cxT (X:Cx)(pn:List (Addr×Obj))(W:Value->Shared->Prop):Cx:={ X with pn:=pn++X.pn,xe:=W }
section
variable {X:Cx}{pins pn:List (Addr×Obj)}{W:Value->Shared->Prop}{σ:St}{H:Hp}{s:Shared}
theorem ZK (I:Inv X pn σ H s):Inv (cxT X pn W) [] σ H s :=
 ⟨⟨I.ok.mod,I.ok.kind,I.ok.glob,I.ok.blt,I.ok.above,I.ok.inj,I.ok.has,I.ok.cab,I.ok.hd,I.ok.frames,I.ok.stk,I.ok.exf,I.ok.bs,I.ok.bsz,I.ok.noex,I.ok.exfs,I.ok.funs,I.ok.frf⟩,I.os,I.bare,I.base,I.loc,I.cell,I.free,I.freeC,λp hp=>by
  have hp':p∈(pn++X.pn)++[]:=hp
  rw[List.append_nil] at hp'
  exact I.pin p ((List.mem_append.mp hp').elim (λz=>List.mem_append_right _ z) λz=>List.mem_append_left _ z),I.hok,I.len⟩
theorem okT (ok:(cxT X pn W).Ok):X.Ok:=⟨ok.mod,ok.kind,ok.glob,ok.blt,ok.above,ok.inj,ok.has,ok.cab,ok.hd,ok.frames,ok.stk,ok.exf,ok.bs,ok.bsz,ok.noex,ok.exfs,ok.funs,ok.frf⟩
theorem xJ (ok:X.Ok)(I:Inv (cxT X pn W) pins σ H s):Inv X pn σ H s :=
 ⟨ok,I.os,I.bare,I.base,I.loc,I.cell,I.free,I.freeC,λp hp=>I.pin p (by
  show p∈(pn++X.pn)++pins
  exact List.mem_append_left _ ((List.mem_append.mp hp).elim (λz=>List.mem_append_right _ z) λz=>List.mem_append_left _ z)),I.hok,I.len⟩
end
def WX (X:Cx)(pins:List (Addr×Obj))(E:St->XK):Value->Shared->Prop:=λex s'=>∃σ' ea C dd a0 T H',ex=.ref ea/\Inv X pins σ' H' s'/\Trf s'.heap ea C dd a0 T/\Own X pins H' ea/\(∀t,T=some t->Own X pins H' t)/\E σ' C dd H'
section
variable {X:Cx}{pins:List (Addr×Obj)}{E:St->XK}
theorem Yd:Dv.PassS (cxT X pins (WX X pins E)) E:=by
 intro pins' σ H s e s' I0 hx
 have I:Inv X pins σ H s:=xJ (okT I0.ok) I0
 obtain⟨ea,C,dd,a0,T,H',rfl,hos,bare,un,hok,ht,h1,h2,h3,h4,hE⟩:=hx
 exact⟨σ,ea,C,dd,a0,some T,H',rfl,I.call' hos un hok bare λb z=>absurd z (by simp),ht.free,vI I h1 h3,λt q=>by cases q;exact vI I h2 h4,hE⟩
variable (hstk:X.stack=X.env::X.outer/\X.env.frame=some X.env.locals)
include hstk
omit hstk in
end
section
variable {X:Cx}{E:St->XK}{sts:List Stmt}{t:TS}
theorem YU (h:∀pn,PSs (cxT X pn (WX X pn E)) sts t)(hx:∀pn e s',WX X pn E e s'->X.xe e s'):PSs X sts t:=λpins s σ H D I q=>
 wpAny_mono (h pins [] s σ H D (ZK I) q) (λf s1 z=>by
  cases f with
  |next=>obtain⟨σ',H',I',q⟩:=z;exact⟨σ',H',xJ I.ok I',q⟩
  |brk=>obtain⟨σ',H',I',q⟩:=z;exact⟨σ',H',xJ I.ok I',q⟩
  |cont=>obtain⟨σ',H',I',q⟩:=z;exact⟨σ',H',xJ I.ok I',q⟩
  |ret u=>obtain⟨v,σ',H',I',r,q⟩:=z;exact⟨v,σ',H',xJ I.ok I',r,q⟩) (hx pins)
end
section
variable {P:Program}{w:World}{K:PySem.W.Frag}{mg:Str->Option Value}{base:Heap}{N:List Str}{qual:Str}{scope:Scope}{f:Addr}{cd:Value}{A:Around}{outer:List Env}{s:Shared}{H:Hp}{E:XK}
theorem VX {X:Cx}(hX:X=cxOf (CX1 P w) P w K mg base N qual scope f cd A outer s H E)(pn:List (Addr×Obj))(e:Value)(s':Shared)(h:WX X pn (λ_=>E) e s'):X.xe e s':=by
 obtain⟨σ',ea,C,dd,a0,T,H',rfl,I,ht,o1,o2,hE⟩:=h
 have hs0:X.s₀=s:=by subst hX;rfl
 have b1:s.heap.objs.size<=ea:=by have:=o1.1;rw[hs0] at this;exact this
 have b2:∀t,T=some t->s.heap.objs.size<=t/\H' t=none:=λt q=>⟨by have:=(o2 t q).1;rw[hs0] at this;exact this,(o2 t q).2.2.2.2.1⟩
 have h3:H' ea=none:=o1.2.2.2.2.1
 subst hX
 show wpAny _ _ (leaving _ _) _ _ _
 unfold leaving
 have hl:=I.stack
 have hfree:=I.stkFree
 have hb0:=I.base
 have hok:=I.hok
 have sz:s.heap.objs.size<=s'.heap.objs.size:=I.sz
 refine wpAny_bind (noteF I.ok.frames hl rfl ht λh1 T1 t1 l1 k1=>kQ (s:={ s' with heap:=h1 }) t1 λh' _ t2 k2=>?_)
 have t2:=t2 rfl
 have kT:H' T1=none/\s.heap.objs.size<=T1:=by
  rcases l1 with l | l
  ·exact⟨hok.fresh l,Nat.le_trans sz l⟩
  ·exact⟨(b2 _ l).2,(b2 _ l).1⟩
 have k3:Kpt (frs ((envOfC qual scope s.heap.objs.size f cd)::outer)) ea T s'.heap h':=λb o n1 n2 q=>by
  have n3:some T1≠some b:=λz=>by
   cases z
   rcases l1 with l | l
   ·exact absurd (Heap.lt_size q) (Nat.not_lt.mpr l)
   ·exact n2 l
  obtain⟨q1,sl,q2⟩:=k1 b o n1 n2 q
  refine⟨λhb=>((k2 b o n1 n3 (q1 hb)).1 (by simp)),?_⟩
  obtain⟨sl2,q3⟩:=(k2 b _ n1 n3 q2).2
  exact⟨sl2,q3⟩
 have fr:∀b,b < s.heap.objs.size->b∉frs outer->b∉frs ((envOfC qual scope s.heap.objs.size f cd)::outer):=λb hb hn hm=>by
  unfold frs at hm
  rw[List.filterMap_cons] at hm
  have q:(envOfC qual scope s.heap.objs.size f cd).frame=some s.heap.objs.size:=rfl
  rw[q] at hm
  rcases List.mem_cons.mp hm with z | z
  ·omega
  ·exact hn z
 have lo:∀b o,s.heap.get? b=some o->b≠ea/\T≠some b/\b < s.heap.objs.size:=λb o e=>by
  have l:=Heap.lt_size e
  refine⟨Nat.ne_of_lt (Nat.lt_of_lt_of_le l b1),λz=>?_,l⟩
  exact absurd (Nat.lt_of_lt_of_le l (b2 b z).1) (Nat.lt_irrefl _)
 refine⟨ea,C,dd,a0,T1,H',rfl,I.os,I.bare,⟨λb o e n hb hx=>?_,λb o e n hb hx=>?_,λb o e n hx=>hb0.free b o e n hx,λb o e hx=>?_,hb0.tups,hb0.frzs,hb0.tbls⟩,λa u e=>?_,t2,b1,kT.2,h3,kT.1,hE⟩
 ·obtain⟨l1,l2,l3⟩:=lo b o e
  exact (k3 b o l1 l2 (hb0.keep b o e n hb hx)).1 (fr b l3 hb)
 ·obtain⟨l1,l2,l3⟩:=lo b o e
  obtain⟨sl,q⟩:=hb0.slot b o e n hb hx
  obtain⟨sl',q'⟩:=(k3 b _ l1 l2 q).2
  exact⟨sl',q'⟩
 ·obtain⟨l1,l2,l3⟩:=lo b o e
  obtain⟨o',q⟩:=hb0.there b o e hx
  obtain⟨sl',q'⟩:=(k3 b _ l1 l2 q).2
  exact⟨_,q'⟩
 ·refine (hok a u e).stay (λb v hb q=>?_) (λ_ z=>z) λ_ _ z=>z
  have ht:H' b≠none:=by
   rcases hb with rfl | z
   ·rw[e];simp
   ·rw[z];simp
  exact (k3 b v (λz=>ht (by rw[z];exact h3)) (λz=>ht (b2 b z).2) q).1 λz=>ht (hfree b z)
end
section
variable {X:Cx}{pn:List (Addr×Obj)}{E:St->XK}{C HE fI:Addr}{fd x:Str}{pos p cpos:Pos}{a:Expr}{t:TA}{k:Nat}{f0:FuncData}{ps:List Str}
end
section
variable {X:Cx}{MC:Addr}{ie:Nat}{t1:TS}{t2:(St->XK)->TS}{ts:Addr->Addr->Option Addr->TS}{body suite:List Stmt}{b0:Stmt}{xM n:Str}{pM hpos pos:Pos}
end
end L6
namespace Dv
open PySem PySem.Spec L2 L3 L4 L6
open PyProof.Rows hiding St
section
variable {P:Program}{w:World}{K:PySem.W.Frag}{mg:Str->Option Value}{base:Heap}{N:List Str}{qual:Str}{scope:Scope}{f:Addr}{cd:Value}{A:Around}{outer:List Env}{s0:Shared}{H0:Hp}
variable {X:Cx}{pn:List (Addr×Obj)}{E:St->XK}{B:Bs}{ca:Str->Addr}{C HE fI:Addr}{fd x nm:Str}{pos p cpos:Pos}{a:Expr}{rest:List Stmt}{k:Nat}{gd:EnvD->Option D}{f0:FuncData}{ps:List Str}{g:EnvD->Option (EnvD×Xv)}
def mirY (N:List Str)(n:Nat)(g:EnvD->Option (EnvD×Xv)):List En->Option Xv:=λxs=>if xs.length=n then (g (stE N (xs.map some))).map (·.2) else none
theorem ZF {n:Nat}:∀xs o,mirY N n g xs=some o->xs.length=n:=λxs o h=>by
 unfold mirY at h
 split at h
 ·assumption
 ·cases h
theorem ZG {st:Stmt}(F:Fun K x qual st f f0)(S:FnScope N ps (ze st))
  (hb:∀(cdv:Value) (A:Around) (outer:List Env) (s:Shared) (H:Hp) (E:XK) (B:Bs) (pn:List (Addr×Obj)),Room k (A.deeper (envOfC qual (ze st) s.heap.objs.size f cdv)) ->
   DVs (cxT (cxOf (CX1 P w) P w K mg base N qual (ze st) f cdv A outer s H E) pn (WX (cxOf (CX1 P w) P w K mg base N qual (ze st) f cdv A outer s H E) pn λ_=>E)) B ca fd (λ_=>E) (zq st) g) :
  FnOk P w K mg base (CX1 P w) (k+1) f f0 ps (ySp ⟨K,w⟩ ca fd ps.length (mirY N ps.length g)):=by
 obtain⟨oc,od,kV,doc,pm,an,cdv,ct,osl,rfl,lk,hcd⟩:=F.ex
 refine uk lk hcd S (λvs H Q E h=>?_) λA outer s H vs Q E hr h=>?_
 ·obtain⟨F,xs,o,_,hl,hp,_⟩:=h
  rw[<-vf hp];exact hl
 ·obtain⟨F0,xs,q,fh,hl,hp,hm,k⟩:=h
  unfold mirY at hm
  rw[if_pos hl] at hm
  cases q1:g (stE N (xs.map some)) with
  |none=>rw[q1] at hm;cases hm
  |some q2=>
   rw[q1] at hm
   cases hm
   exact⟨λ_ σ H'=>lVs ⟨K,w⟩ ⟨F0,H⟩ ca fd (λ_=>E) g σ H',YU (E:=λ_=>E) (λpn=>hb cdv A outer s H E ⟨F0,H⟩ pn hr) (VX rfl),F0,_,q2,q9 (ps:=ps) fh hp,q1,λdd σ' F' H' r' s' pd=>k dd F' H' r'.ex pd⟩
end
inductive It where
 |con (x:Str) | pay | isx (b:Bool)
section
variable {X:Cx}{B:Bs}{C HE fI M2 MC:Addr}{ca:Str->Addr}{fd n x nm0:Str}{ie i:Nat}{pos p p2 p3 pI pC:Pos}{e:Expr}{es:List Expr}{it:It}{its:List It}
def unset:Option (Option En)->Bool
 |some none=>true
 |_=>false
@[simp]theorem U2:unset (some none)=true:=rfl
theorem Kw {o:Option (Option En)}(h:unset o=true):o=some none:=by
 unfold unset at h
 split at h
 ·rfl
 ·cases h
variable {gs:SD}{gx:EnvD->Option (EnvD×Xv)}{body:List Stmt}{xM fx:Str}{pM hpos pF epos lpos:Pos}
end
section
variable {X:Cx}{B:Bs}{pos:Pos}
theorem K0:PE X (.Dict [] [] pos) (λ_ H Q=>∀p,H p=none->Q (.ref p) (upd H p (.dK []))):=λpins s σ H Q I h=>by
 have big:(s.heap.objs.size==sysModules)=false:=beq_eq_false_iff_ne.mpr (Ne.symm (Nat.ne_of_lt I.big))
 have z:([]:List (Key×V)).length<=sizeLine:=Nat.zero_le _
 exact wpAny_Dict_empty ⟨.ref s.heap.objs.size,_,I.laid (a:=s.heap.objs.size) (o:=.dK []) (t':=s.toks) (λ_ _ q=>Heap.get?_push_of_some _ q) (Nat.le_refl _) ⟨z,big,[],.nil,Heap.DictOf.new _⟩,rfl,h _ (I.hok.fresh (Nat.le_refl _))⟩
theorem jq:DE X B (.Dict [] [] pos) (gc .emp):=zr K0 λσ H Q zz=>zz.el λF ρ d r hg k=>by
 cases hg
 exact λp hp=>k _ (upd F p (.dK [])) _ (Ext.newF r.fh hp) ⟨p,rfl,zm⟩
end
section
end
section
variable {X:Cx}{pins:List (Addr×Obj)}{σ:St}{H:Hp}{s:Shared}
end
section
variable {X:Cx}{B:Bs}{ca:Str->Addr}{fd:Str}{E:St->XK}{pos:Pos}{tg iter:Expr}{body rest:List Stmt}{t:Tgt}{gi:EnvD->Option (List D)}{gbd:SD}{gxb:EnvD->Option (EnvD×Xv)}
end
end Dv
namespace L6
open PySem PySem.Spec L2 L3 L4
open PyProof.Rows hiding St
structure XC0 (K:PySem.W.Frag)(C:Addr):Prop where
 cls:∃dd cd k0 k1 k2 k3 k5 bm,K.lookup C=some ⟨.type "type",dd,.cls cd,#[k0,k1,k2,k3,some (.builtin "ValueError.__new__"),k5]⟩/\cd.mro=.ref C::bm/\cd.hasDel=false /\
  PySem.W.tailIn K vB bm=true/\PySem.W.nsOkIn K cd.ns=true/\nsIn K cd.ns "__init__" = some none
 kp:keepIn K (.ref C)=true
section
variable {P:Program}{w:World}{A:Around}{E:Value->Shared->Prop}{H:Heap}{g:Array GenState}{dr:Drawn}{t:Nat}{os:OsState}{C N:Addr}{vs:List Value}{mN:Str->Option Value}
variable {nm q:Str}{bs bm bb:List Value}{hd:Bool}{sn:List Str}{sb:List Value}{ab:Bool}{col:Option Bool}{dl:Option Addr}{k0 k1 k2 k3 k5:Option Value}{b0 nid iid:String}
theorem VM (F:ExcBaseFacts b0 nid iid bb)(T:OwnTail H bb bm){Q:Fin->Shared->Prop}(c:H.get? C=some (excClassObj nm q C N bs bm hd sn sb ab col dl k0 k1 k2 k3 k5 nid))(n:H.Ns N mN)(i:mN "__init__" = none)
  (k:∀h' e t',H.objs.size<=e->h'.get? e=some { cls:=.ref C,data:=.fields #[.ref t',.none,.none,.none,.bool false,.none] }->(∀b o,H.get? b=some o->h'.get? b=some o)->Q (.done (.ret (.ref e))) ⟨h',g,dr,t,os⟩) (few:vs.length<=sizeLine) :
  wpAny (model P w) A (Builtin.«type.__call__» ⟨.ref C::vs,[]⟩) Q E ⟨H,g,dr,t,os⟩:=by
 have me:(Value.ref C::bm).contains (.ref C)=true:=List.contains_iff_mem.mpr (.head _)
 have c':=yW (C:=C) (vs:=vs) c
 have T':=T.keeps (h':=made H C vs) λ_ _ z=>yW z
 repeat
  first
   |with_reducible refine wpAny_loadPart_at c ?_
   |with_reducible refine wpAny_madeBy_exc c ?_
   |wp_step
 apply codeAny_call_builtin_code (Code.quiet_builtin _ F.quiet)
 apply wpAny_check_new_subT F T c
 refine codeAny_exc_new_subT F T c ?_ few
 show wpAny (model P w) A _ _ _ ⟨made H C vs,g,dr,t,os⟩
 unfold isInstance
 repeat
  first
   |with_reducible refine wpAny_loadPart_at jk ?_
   | (with_reducible refine wpAny_isSubtype_exc c' ?_;rw[me])
   |wp_step
 show wpAny (model P w) A (typeLookup (.ref C) "__init__") _ _ _
 apply wpAny_typeLookup_tail c' (kH n) T' F.mroIs F.init.lookup
 rw[i]
 refine wpAny_holding (wpAny_bind (wpAny_of_eq (F.init.bind _) (wpAny_bind ?_)))
 refine jB F T' c' jk few λh' e1 e2=>?_
 wp_walk
 exact k h' _ _ (Nat.le_succ _) e1 λb o z=>e2 b o (Nat.ne_of_lt (Nat.lt_succ_of_lt (Heap.lt_size z))) (yW z)
theorem uP (F:ExcBaseFacts b0 nid iid bb)(T:OwnTail H bb bm){Q:Value->Shared->Prop}(c:H.get? C=some (excClassObj nm q C N bs bm hd sn sb ab col dl k0 k1 k2 k3 k5 nid))(n:H.Ns N mN)(i:mN "__init__" = none)
  (k:∀h' e t',H.objs.size<=e->h'.get? e=some { cls:=.ref C,data:=.fields #[.ref t',.none,.none,.none,.bool false,.none] }->(∀b o,H.get? b=some o->h'.get? b=some o)->Q (.ref e) ⟨h',g,dr,t,os⟩) (few:vs.length<=sizeLine) :
  wpAny (model P w) A (call (.ref C) vs) Q E ⟨H,g,dr,t,os⟩:=by
 have ty:(⟨H,g,dr,t,os⟩:Shared).TypeIs (.ref C) "type" := ⟨_,c,rfl⟩
 have l1:=tc_lookup
 have l2:=tc_bind (.ref C)
 apply wpAny_call
 apply codeAny_of_tree
 show wpAny (model P w) _ (callAny (.ref C) ⟨vs,[]⟩) _ _ _
 repeat
  any_goals first
   |assumption
   |with_reducible refine wpAny_loadPart_at c ?_
   |wp_step
 refine⟨rfl,codeAny_call_builtin_at (Code.quiet_builtin _ (by decide +kernel)) entry_typeCall (wpAny_check_type_call_sub c ?_)⟩
 exact VM (few:=few) F T c n i λh' e t' l m s=>k h' e t' l m s
end
theorem KQ {K:PySem.W.Frag}{h:Heap}{N:Addr}{mg:Str->Option Value}{n:Str}(X:K.In h)(G:h.Ns N mg)(e:nsIn K N n=some none):mg n=none:=by
 obtain⟨o,es,ep,ho,hd,_,hf⟩:=G
 unfold nsIn at e
 split at e
 ·rename_i q
  have:=X _ _ q
  rw[ho] at this
  cases this
  cases hd
  split at e
  ·cases e
  ·rename_i he
   rw[<-hf]
   unfold nsFind findBy
   rw[<-Array.find?_toList,he]
   rfl
 ·cases e
theorem XC0.at {K:PySem.W.Frag}{C:Addr}{h:Heap}(x:XC0 K C)(X:K.In h):∃nm q N bs bm hdct sn sub ab col dd k0 k1 k2 k3 k5 mN,h.get? C=some (excClassObj nm q C N bs bm hdct sn sub ab col dd k0 k1 k2 k3 k5 "ValueError.__new__")/\h.Ns N mN/\mN "__init__" = none/\OwnTail h vB bm:=by
 obtain⟨dd,cd,k0,k1,k2,k3,k5,bm,e,m,hdel,ht,hok,hi⟩:=x.cls
 obtain⟨nm,bs,mro,ns,qn,hd,sn,sub,ab,col,del⟩:=cd
 dsimp only at m hdel hok hi
 subst m hdel
 have G:h.Ns ns (h.nsMap ns):=.of_isNs (PySem.W.isNs_of_in X hok)
 refine⟨nm,qn,ns,bs,bm,hd,sn,sub,ab,col,dd,k0,k1,k2,k3,k5,_,X _ _ e,G,?_,PySem.W.tail_of_in X ht⟩
 exact KQ X G hi
section
variable {X:Cx}{pn:List (Addr×Obj)}{E:St->XK}{C:Addr}{x:Str}{pos p cpos:Pos}{a:Expr}{t:TA}
def WV (C:Addr)(E:St->XK)(t:TA):TS:=λ_ σ H=>t σ H λvs H1=>∃v,vs=[v]/\E σ (.ref C) none H1
theorem QS (hc:X.calm=true)(xc:XC0 X.K C)(hg:Gl X x)(hm:X.mg x=some (.ref C))(ha:PA (cxT X pn (WX X pn E)) [a] t)(hdb:(x==("__debug__" : Str))=false:=by decide)
  (he:starEach [a] X.env=(false,eval a X.env)::starEach [] X.env:=by rfl) (hpl:(backTo cpos (starEach [] X.env)).any (·.1)=false:=by rfl) :
  PS (cxT X pn (WX X pn E)) (.Raise (some (.Call (.Name x p) [a] [] cpos)) none pos) (WV C E t):=by
 intro pins s σ H D I h
 have hh:X.A.handled=none:=I.ok.hd hc
 obtain⟨nm,qq,N',bs,bm,hdct,sn,sub,ab,col,dd,k0,k1,k2,k3,k5,mN,hC,hN,hi,T⟩:=xc.at I.ok.mod.kin
 have hbase:bm.contains (.type "BaseException")=true:=T.hasType (by decide)
 rw[arm_exec_Raise]
 refine wpAny_bind (wpAny_standAt ?_)
 show wpAny _ _ (raiseStmt X.env (some (do let v <-eval (.Call (.Name x p) [a] [] cpos) X.env;standAt pos;pure v)) none) _ _ _
 refine JL (nm:=nm) (q:=qq) (C:=C) (N:=N') (bs:=bs) (bm:=bm) (hdct:=hdct) (sn:=sn) (sub:=sub) (ab:=ab) (col:=col) (dd:=dd) (k0:=k0) (k1:=k1) (k2:=k2) (k3:=k3) (k5:=k5) (newId := "ValueError.__new__") hbase hh (wpAny_bind ?_)
 refine wpAny_Call_Name_kw (yv (X:=cxT X pn (WX X pn E)) I hg hm ?_ hdb)
 refine PySem.W.callWith_K (h₀:=X.base) I.ok.mod.kin xc.kp (thn (ha cpos pins s σ H _ I h) λus s1 ⟨vs,H1,I1,r1,v,ev,q⟩=>⟨I1.kIn,?_⟩) he hpl
 subst ev
 obtain⟨nm',qq',N2,bs',bm',hdct',sn',sub',ab',col',dd',k0',k1',k2',k3',k5',mN',hC',hN',hi',T'⟩:=xc.at I1.kIn
 have hl1:us.length<=sizeLine:=by rw[<-r1.length,List.length_cons,List.length_nil,sizeLine_eq];omega
 obtain⟨hh1,g,d,tk,os⟩:=s1
 refine uP PySem.F.excBase_ValueError T' hC' hN' hi' (λh' e t' l1 l2 l3=>wpAny_bind (wpAny_standAt (wpAny_pure ?_))) hl1
 have I2:Inv (cxT X pn (WX X pn E)) pins σ (upd H1 e (ExO e C t' none)) ⟨h',g,d,tk,os⟩:=I1.laid (a:=e) (o:=ExO e C t' none) (h':=h') (t':=tk) (λb o q=>l3 b o q) l1 (xQ l2)
 have hne:H1 e=none:=I1.hok.fresh l1
 have hee:upd H1 e (ExO e C t' none) e=some (ExO e C t' none):=zm
 refine⟨e,t',none,rfl,I2.bk _ _ hC,l2,?_⟩
 have I3:=WR I2 hee
 have eq:del (upd H1 e (ExO e C t' none)) e=H1:=by
  funext b
  by_cases h1:b=e
  ·subst h1;rw[jA,hne]
  ·rw[j3 h1,zf h1]
 rw[eq] at I3
 exact⟨σ,e,.ref C,none,.ref t',none,_,rfl,xJ (okT I3.ok) I3,⟨_,_,l2,rfl,rfl,rfl,rfl,λ_=>rfl,λ_ z=>(nomatch z)⟩,vI (xJ (okT I1.ok) I1) l1 hne,λ_ z=>(nomatch z),q⟩
end
end L6
namespace Dv
open PySem PySem.Spec L2 L3 L4 L6
open PyProof.Rows hiding St
section
variable {X:Cx}{pn:List (Addr×Obj)}{E:St->XK}{B:Bs}{ca:Str->Addr}{C:Addr}{fd x nm:Str}{pos p cpos:Pos}{a:Expr}{rest:List Stmt}{gd:EnvD->Option D}
def yO (nm:Str)(gd:EnvD->Option D):EnvD->Option (EnvD×Xv):=λρ=>(gd ρ).map λ_=>(ρ,nm,none)
theorem qu (hC:ca nm=C)(hc:X.calm=true)(xc:XC0 X.K C)(hg:Gl X x)(hm:X.mg x=some (.ref C))(ha:DE (cxT X pn (WX X pn E)).nox B a gd)(hdb:(x==("__debug__" : Str))=false:=by decide +kernel)
  (he:starEach [a] X.env=(false,eval a X.env)::starEach [] X.env:=by rfl) (hpl:(backTo cpos (starEach [] X.env)).any (·.1)=false:=by rfl) :
  DVs (cxT X pn (WX X pn E)) B ca fd E (.Raise (some (.Call (.Name x p) [a] [] cpos)) none pos::rest) (yO nm gd) :=
 wN (ye (QS hc xc hg hm (PA.nox (z5 ha zQ he)) hdb he hpl) (u:=λ_ _ _=>False) λ_ _ _ _ _ _ z=>z.elim) λD σ H zz=>zz.el λF ρ q r hg k=>by
  unfold yO at hg
  cases q1:gd ρ with
  |none=>rw[q1] at hg;cases hg
  |some d=>
   rw[q1] at hg
   cases hg
   refine⟨F,ρ,d,r,q1,λv F' H' e1 p1=>⟨v,rfl,?_⟩⟩
   have:=k none σ F' _ (r.ext e1) e1.ff rfl
   rw[hC] at this
   exact this
end
theorem yV {X:Cx}{B:Bs}{e:Expr}{es:List Expr}{g:EnvD->Option D}{gs:EnvD->Option (List D)}(hs:starEach (e::es) X.env=(false,eval e X.env)::starEach es X.env)(ha:DE X B e g)(hr:DAs X B es gs):DAs X B (e::es) (gCons' g gs):=zd ha hr hs
end Dv
namespace L6
open PySem PySem.Spec L2 L3 L4
open PyProof.Rows hiding St
section
variable {prog:Program}{w:World}{A:Around}{E:Value->Shared->Prop}
end
end L6
namespace Dv
open PySem PySem.Spec L2 L3 L4 L6
open PyProof.Rows hiding St
end Dv
namespace L6
open PySem PySem.Spec L2 L3 L4
open PyProof.Rows hiding St
structure XN (K:PySem.W.Frag)(C M:Addr):Prop where
 sub:subIn K (.ref C) (.ref M)=some false
 nt:PySem.W.instIn K (.ref M) (.type "tuple")=some false
 cls:(clsIn K M).isSome=true
 exc:subIn K (.ref M) (.type "BaseException")=some true
structure Hd where
 MC:Addr
 ie:Option Nat
 ts:Addr->Addr->Option Addr->TS
inductive HsOk (X:Cx):List ExceptHandler->List Hd->Prop
 |nil:HsOk X [] []
 |as {xM n:Str} {MC:Addr} {ie:Nat} {ts:Addr->Addr->Option Addr->TS} {b0:Stmt} {suite:List Stmt} {rest:List ExceptHandler} {hds:List Hd} {pM hpos:Pos} (hg:Gl X xM) (hm:X.mg xM=some (.ref MC)) (hdb:(xM==("__debug__" : Str))=false)
   (hi:X.N[ie]?=some n) (hl:X.env.scope.names.lookup n=some .local) (hs:∀ea oe C dd,oe.cls=.ref C->oe.dict=dd->(∃fs,oe.data=.fields fs)->PSs (cxE X ea [(ea,oe)]) (b0::suite) (ts ea C dd)) (hr:HsOk X rest hds) :
   HsOk X (.ExceptHandler (some (.Name xM pM)) (some n) (b0::suite) hpos::rest) (⟨MC,some ie,ts⟩::hds)
 |no {xM:Str} {MC:Addr} {ts:Addr->Addr->Option Addr->TS} {b0:Stmt} {suite:List Stmt} {rest:List ExceptHandler} {hds:List Hd} {pM hpos:Pos} (hg:Gl X xM) (hm:X.mg xM=some (.ref MC)) (hdb:(xM==("__debug__" : Str))=false)
   (hs:∀ea oe C dd,oe.cls=.ref C->oe.dict=dd->(∃fs,oe.data=.fields fs)->PSs (cxE X ea [(ea,oe)]) (b0::suite) (ts ea C dd)) (hr:HsOk X rest hds) :
   HsOk X (.ExceptHandler (some (.Name xM pM)) none (b0::suite) hpos::rest) (⟨MC,none,ts⟩::hds)
section
variable {X:Cx}{pins:List (Addr×Obj)}
end
section
variable {X:Cx}{t1:TS}{t2:(St->XK)->TS}{body:List Stmt}{h0:ExceptHandler}{hs:List ExceptHandler}{hds:List Hd}{pos:Pos}
end
end L6
namespace Dv
open PySem PySem.Spec L2 L3 L4 L6
open PyProof.Rows hiding St
section
variable {X:Cx}{B:Bs}{ca:Str->Addr}{fd:Str}{E:St->XK}{pos:Pos}{tg iter elt:Expr}{ifs:List Expr}{scope:Scope}{own:List Str}{cap:List (Str×Nat)}{t:Tgt}{tc:EnvD->Option Bool}{α:Type}{post:Post α}{ge:EnvD->Option α}{gx:EnvD->Option Xv}{gi:EnvD->Option (List D)}
end
end Dv
namespace L6
open PySem PySem.Spec L2 L3 L4
open PyProof.Rows hiding St
def ExcAt (e C:Addr)(h:Heap):Prop:=∃ox od,InstAt h e ox C od
structure XI (K:PySem.W.Frag)(C:Addr):Prop where
 sub:subIn K (.ref C) (.type "BaseException")=some true
 cls:(clsIn K C).isSome=true
 ga:findIn K (.ref C) "__getattribute__" = some (some (.builtin "BaseException.__getattribute__"))
 gt:findIn K (.ref C) "__getattr__" = some none
 ca:findIn K (.ref C) "__class__" = some (some (.builtin "object.__class__"))
 cg:PySem.W.specialIn K (.builtin "object.__class__") "__get__" = some (some (.builtin "getset_descriptor.__get__"))
 ct:PySem.W.takesIn K (.builtin "object.__class__")=some true
 mo:PySem.W.mroIn K C (.type "object")=some true
section
variable {prog:Program}{w:World}{A:Around}{E:Value->Shared->Prop}{K:PySem.W.Frag}{x C:Addr}
theorem V5 {ox:Obj}{od:Option Obj}{tk:Tok}{R:Result->Shared->Prop}{s:Shared}(xi:XI K C)(X:K.In s.heap)(I:InstAt s.heap x ox C od)(hq:R (.ok (.ret (.ref C))) s) :
  wpAny (model prog w) A.in1 (Builtin.«object.__getattribute__» ⟨[.ref x,.str "__class__" tk],[]⟩)
   (λfin s'=>match fin with | .done f=>R (.ok f) s' | .again c'=>c'.quiet=true/\codeAny (model prog w) A c' R s') (λe s'=>R (.error e) s') s:=by
 have hf:PySem.W.findObj K C od "__class__" = some (.bind (.builtin "getset_descriptor.__get__") (.builtin "object.__class__")):=by
  obtain⟨cd,hc⟩:=Option.isSome_iff_exists.mp xi.cls
  unfold PySem.W.findObj
  rw[hc,Option.bind_some,xi.ca,Option.bind_some]
  simp[xi.cg,xi.ct]
 obtain⟨h,g,d,t,os⟩:=s
 have L0:=I.type (M:=model prog w)
 have L1:=PySem.W.looks_find (M:=model prog w) X I hf
 unfold Builtin.«object.__getattribute__»
 refine wpAny_bind (wpAny_pure (wpAny_bind (wpAny_pure (wpAny_bind (L0.at (wpAny_bind (L1.at ?_)))))))
 show wpAny _ _ (holding [_] (call _ [_,.ref x,.ref C]) >>= ret) _ _ _
 exact wpAny_bind (wpAny_holding (wpAny_call (PySem.W.class_get (s:=⟨h,g,d,t,os⟩) X I xi.mo (wpAny_pure hq))))
theorem VJ {ox:Obj}{od:Option Obj}{tk:Tok}{R:Result->Shared->Prop}{s:Shared}(xi:XI K C)(X:K.In s.heap)(I:InstAt s.heap x ox C od)(hq:R (.ok (.ret (.ref C))) s) :
  codeAny (model prog w) A (.call (.builtin "BaseException.__getattribute__") ⟨[.ref x,.str "__class__" tk],[]⟩) R s:=by
 refine codeAny_call_builtin PySem.F.attrBase_ValueError.ga.plain PySem.F.entry_bexc_ga ?_
 refine @PySem.W.check_slot (model prog w) _ _ s "BaseException.__getattribute__" "BaseException" "__getattribute__" (.ref x) [.str "__class__" tk] [] _ (by decide +kernel) (by decide +kernel) (I.type.andThen (PySem.W.looks_subIn X xi.sub)) (PySem.F.args_bexc_ga (.ref x) (.str "__class__" tk)) ?_
 exact V5 xi X I hq
theorem Vh {ox:Obj}{od:Option Obj}{Q:Option Value->Shared->Prop}{s:Shared}(xi:XI K C)(X:K.In s.heap)(I:InstAt s.heap x ox C od)(hq:Q (some (.ref C)) { s with toks:=s.toks+1 }) :
  wpAny (model prog w) A (getAttr? (.ref x) "__class__") Q E s:=by
 obtain⟨h,g,d,t,os⟩:=s
 have L0:=I.type (M:=model prog w)
 have L1:=looks_findIn (M:=model prog w) X xi.ga
 have L2:=looks_findIn (M:=model prog w) X xi.gt
 have f3:=PySem.F.attrBase_ValueError.ga.bind (.ref x)
 have hv2:handedOut (Value.ref C)=pure (Value.ref C):=rfl
 have hx2:(Value.builtin "BaseException.__getattribute__" == Value.builtin "object.__getattribute__")=false:=by decide +kernel
 have hx1:(onTheHeap (Value.ref C)&&Value.builtin "BaseException.__getattribute__" == Value.builtin "object.__getattribute__")=false:=by rw[hx2];rfl
 unfold getAttr? getAttrBy? getAttrBy
 repeat (any_goals (first | assumption | with_reducible refine L0.at ?_ | with_reducible refine L1.at ?_ | with_reducible refine L2.at ?_ | rw[hv2] | wp_step))
 refine VJ (s:=⟨h,g,d,t+1,os⟩) xi X I ?_
 repeat (any_goals (first | assumption | rw[hv2] | wp_step))
theorem V6 (xi:XI K C):PySem.W.KitX K (.ref x) (.ref C) (ExcAt x C) where
 ty:=λ_ _ _ ⟨_,_,I⟩=>I.type
 it:=λ_ _ X _=>by
  obtain⟨cd,hc⟩:=Option.isSome_iff_exists.mp xi.cls
  unfold clsIn at hc
  split at hc
  ·rename_i ho
   intro A' Q' E' s' k q
   unfold isType loadHead
   exact wpAny_bind (wpAny_loadPart (k _ _ (X _ _ ho)) (wpAny_pure q))
  ·cases hc
 ne:=λh tp dd its n sl X htp=>by
  obtain⟨cd,hc⟩:=Option.isSome_iff_exists.mp xi.cls
  refine Bool.eq_false_iff.mpr λq=>?_
  cases (Value.ref.inj (beq_iff_eq.mp q):C=tp)
  unfold clsIn at hc
  split at hc
  ·rename_i ho
   cases (X _ _ ho).symm.trans htp
  ·cases hc
 ca:=λX ⟨_,_,I⟩ k=>Vh xi X I k
theorem QD {s:Shared}{Q:Value->Shared->Prop}{c:Value}{b:Bool}(xi:XI K C)(X:K.In s.heap)(I:ExcAt x C s.heap)(z:kitOne K (.ref C) c=some b)(h:∀tk,Q (.bool b) { s with toks:=tk }) :
  wpAny (model prog w) A (call (.builtin "isinstance") [.ref x,c]) Q E s :=
 PySem.W.kia_one (V6 xi) X I z (λz=>nomatch z) h
end
end L6
namespace Dv
open PySem PySem.Spec L2 L3 L4 L6
open PyProof.Rows hiding St
section
variable {X:Cx}{elts:List Expr}{tk:Nat}{tpos p pos:Pos}{a:Expr}{B:Bs}{hb:Hp->Hp}{gi:EnvD->Option (List D)}
end
structure Exc0 (K:PySem.W.Frag)(mg:Str->Option Value)(CT HE:Addr)(xT xH:Str)(oth:List (Str×Bool)):Prop where
 xc:XC0 K CT
 xi:XI K CT
 xm:XM K CT CT
 xmH:XM K CT HE
 z:kitOne K (.ref CT) (.ref HE)=some true
 zT:kitOne K (.ref CT) (.ref CT)=some true
 mT:mg xT=some (.ref CT)
 mH:mg xH=some (.ref HE)
 oth:∀q∈oth,∃M,mg q.1=some (.ref M)/\kitOne K (.ref CT) (.ref M)=some q.2
theorem za {K:PySem.W.Frag}{C M:Addr}(h0:subIn K (.ref C) (.ref C)=some true)(h1:PySem.W.isClsIn K M=true)(h2:PySem.W.typeIn K (.ref M)=some (.type "type")) (h3:subIn K (.ref C) (.ref M)=some false):kitOne K (.ref C) (.ref M)=some false:=by
 unfold kitOne
 split
 ·rename_i q
  cases (Value.ref.inj (beq_iff_eq.mp q):C=M)
  rw[h0] at h3
  cases h3
 ·show (if ((clsIn K M).isSome&&PySem.W.typeIn K (.ref M)==some (.type "type"))=true then subIn K (.ref C) (.ref M) else none)=some false
  have h1:(clsIn K M).isSome=true:=h1
  rw[h1,h2,if_pos (by decide)]
  exact h3
section
variable {X:Cx}{B:Bs}{ca:Str->Addr}{fd:Str}{E:St->XK}{pos:Pos}{tg iter elt:Expr}{ifs:List Expr}{scope:Scope}{own:List Str}{cap:List (Str×Nat)}{t:Tgt}{tc:EnvD->Option Bool}{ge:EnvD->Option D}{gx:EnvD->Option Xv}{gi:EnvD->Option (List D)}
end
end Dv
namespace Dv
open PySem PySem.Spec L2 L3 L4
open PyProof.Rows hiding St
section
variable {X:Cx}{B:Bs}{a e o:Expr}{es:List Expr}{pos p apos cpos:Pos}{g go:EnvD->Option D}{gs:EnvD->Option (List D)}
end
section
variable {ρ:EnvD}{g go:EnvD->Option D}{gs:EnvD->Option (List D)}{gj:EnvD->Option Str}
end
section
variable {X:Cx}{B:Bs}{tg iter:Expr}{pos:Pos}{gi:EnvD->Option (List D)}
end
section
variable {K:KW}{B:Bs}{F H:Hp}{σ:St}{ρ:EnvD}
end
section
variable {X:Cx}{B:Bs}{tg e ck c re:Expr}{es:List Expr}{x y nm:Str}{pos p2 p3 p4 p5 ip rp apos cpos:Pos}{id:String}{r:V->List V->Hp->VK->Prop}{f:List D->List D->Option (List D)}{gs:EnvD->Option (List D)}{dd:List D}{gt:EnvD->Option Bool}{ge:EnvD->Option D}
end
open L6
section
variable {X:Cx}{B:Bs}{e a b o:Expr}{es:List Expr}{pos p cpos:Pos}{gts:EnvD->Option (List OT)}{gp:EnvD->Option (List Nat)}{ga gb:EnvD->Option D}
end
section
variable {X:Cx}{B:Bs}{ca:Str->Addr}{fd x:Str}{id:String}{E:St->XK}{pos p:Pos}{e:Expr}{es:List Expr}{k n:Nat}{g:EnvD->Option Xv}{gd:EnvD->Option D}{gx:EnvD->Option En}{m:List En->Option En}
end
theorem zP {α:Type}{P:α->Prop}:∀q∈([]:List α),P q:=λ_ h=>nomatch h
theorem all_cons {α:Type}{P:α->Prop}{a:α}{l:List α}(h:P a)(r:∀q∈l,P q):∀q∈a::l,P q:=List.forall_mem_cons.mpr ⟨h,r⟩
def hasE (ie:Option Nat)(ea:Addr)(σ:St):Prop:=match ie with
 |some k=>σ[k]?=some (some (.ref ea))
 |none=>True
abbrev Jt:=Option D->Option D
def jtsD (q:Option D):List Jt->Option (List D)
 | []=>some []
 |f::r=>(f q).bind λd=>(jtsD q r).map (d::·)
def lCJ (K:KW)(ie:Option Nat)(ea:Addr)(dd:Option Addr)(fd:Str)(f:Jt):TE:=λσ H Q=>hasE ie ea σ/\∃F q d,Same F H/\Pd K F H fd dd q/\f q=some d/\∀v F' H',Ext F H F' H'->Rp K F' d v->Q v H'
def lCJs (K:KW)(ie:Option Nat)(ea:Addr)(dd:Option Addr)(fd:Str)(fs:List Jt):TA:=λσ H Q=>hasE ie ea σ/\∃F q ds,Same F H/\Pd K F H fd dd q/\jtsD q fs=some ds/\∀vs F' H',Ext F H F' H'->Rps K F' ds vs->Q vs H'
def JtOk (X:Cx)(C:Addr)(ie:Option Nat)(fd:Str)(e:Expr)(f:Jt):Prop:=∀ea oe dd,oe.cls=.ref C->oe.dict=dd->(∃fs,oe.data=.fields fs)->PE (cxE X ea [(ea,oe)]) e (lCJ X.kw ie ea dd fd f)
def JtsOk (X:Cx)(C:Addr)(ie:Option Nat)(fd:Str)(es:List Expr)(fs:List Jt):Prop:=∀ea oe dd,oe.cls=.ref C->oe.dict=dd->(∃fs,oe.data=.fields fs)->PA (cxE X ea [(ea,oe)]) es (lCJs X.kw ie ea dd fd fs)
section
variable {X:Cx}{B:Bs}{C HE fI M2 MC:Addr}{ca:Str->Addr}{fd n x y:Str}{ie:Option Nat}{i k:Nat}{pos p p2 p3 pI pC pB lpos:Pos}{e:Expr}{es:List Expr}{f:Jt}{fs:List Jt}{b:Bool}
end
structure Cl where
 ie:Option Nat
 its:List (Str×List Jt)
inductive CsOk (X:Cx) (ca:Str->Addr) (fd:Str) (i:Nat):List ExceptHandler->List Cl->Prop
 |nil:CsOk X ca fd i [] []
 |as {xM n fx:Str} {MC:Addr} {ie:Nat} {its:List (Str×List Jt)} {es:List Expr} {rest:List ExceptHandler} {cls:List Cl} {pM hpos pF lpos epos:Pos} (hg:Gl X xM) (hm:X.mg xM=some (.ref MC)) (hdb:(xM==("__debug__" : Str))=false)
   (hie:X.N[ie]?=some n) (hl:X.env.scope.names.lookup n=some .local) (hit:∀q∈its,JtsOk X (ca q.1) (some ie) fd es q.2) (hx:∀q∈its,XM X.K (ca q.1) MC) (hn:∀c∈cls,∀q∈c.its,XN X.K (ca q.1) MC)
   (hi:X.N[i]?=some fx) (hiL:Loc X.env.scope fx) (hif:X.fn fx=true∨X.env.scope.names.lookup fx=some .local) (hs:swapsWith (.List es lpos) (some (.Name fx pF)) epos.line X.env=pure false) (hr:CsOk X ca fd i rest cls) :
   CsOk X ca fd i (.ExceptHandler (some (.Name xM pM)) (some n) [.Assign [.Name fx pF] (.List es lpos) epos] hpos::rest) (⟨some ie,its⟩::cls)
 |no {xM fx:Str} {MC:Addr} {its:List (Str×List Jt)} {es:List Expr} {rest:List ExceptHandler} {cls:List Cl} {pM hpos pF lpos epos:Pos} (hg:Gl X xM) (hm:X.mg xM=some (.ref MC)) (hdb:(xM==("__debug__" : Str))=false)
   (hit:∀q∈its,JtsOk X (ca q.1) none fd es q.2) (hx:∀q∈its,XM X.K (ca q.1) MC) (hn:∀c∈cls,∀q∈c.its,XN X.K (ca q.1) MC)
   (hi:X.N[i]?=some fx) (hiL:Loc X.env.scope fx) (hif:X.fn fx=true∨X.env.scope.names.lookup fx=some .local) (hs:swapsWith (.List es lpos) (some (.Name fx pF)) epos.line X.env=pure false) (hr:CsOk X ca fd i rest cls) :
   CsOk X ca fd i (.ExceptHandler (some (.Name xM pM)) none [.Assign [.Name fx pF] (.List es lpos) epos] hpos::rest) (⟨none,its⟩::cls)
section
variable {X:Cx}{B:Bs}{ca:Str->Addr}{fd:Str}{i:Nat}
variable {gs:SD}{gx:EnvD->Option (EnvD×Xv)}{body:List Stmt}{h0:ExceptHandler}{hs:List ExceptHandler}{cls:List Cl}{pos:Pos}
end
def ExI (P:Program)(w:World)(K:PySem.W.Frag)(mg:Str->Option Value)(base:Heap)(C HE:Addr)(fd:Str):Prop:=∃fI,XC K C HE fI fd/\∃f0 ps,FnOk P w K mg base CX0 1 fI f0 ps (xiSp C fd)/\Binds K f0 ps []
end Dv
namespace L6
open PySem PySem.Spec L2 L3 L4
open PyProof.Rows hiding St
def calmA (A:Around):Around:={ A with handled:=none }
def PinOk (outer:List Env)(s:Shared)(H:Hp)(pn:List (Addr×Obj)):Prop:=∀p∈pn,s.heap.get? p.1=some p.2/\H p.1=none/\p.1∉frs outer/\∀v,p.2.data≠.cell v
abbrev SpE:=List (Addr×Obj)->List V->Hp->VK->Prop
structure FnE (P:Program)(w:World)(K:PySem.W.Frag)(mg:Str->Option Value)(base:Heap)(k:Nat)(f:Addr)(fd:FuncData)(ps:List Str)(sp:SpE):Prop where
 len:∀pn vs H Q,sp pn vs H Q->vs.length=ps.length
 run:∀(A:Around) (outer:List Env) (s:Shared) (H:Hp) (args:Args) (us:List Value) (vs:List V) (Q:VK) (pn:List (Addr×Obj)),Room k (calmA A)->Env0 P w K mg base A outer s H->BindsTo s fd args (ps.zip us)->Vals vs us->PinOk outer s H pn->sp pn vs H Q ->
  codeAny (model P w) A (.call (.ref f) args) (CR CX0 outer P w H s Q (λ_ _ _=>False)) s
section
variable {P:Program}{w:World}{K:PySem.W.Frag}{mg:Str->Option Value}{base:Heap}{N ps:List Str}{qual name:Str}{scope:Scope}{f:Addr}{cdv:Value}{A:Around}{outer:List Env}{s s1:Shared}{H:Hp}{us:List Value}{vs:List V}{E:XK}{pn:List (Addr×Obj)}
end
section
variable {X:Cx}{k:Nat}{f:Addr}{fd:FuncData}{ps:List Str}{sp:SpE}{x:Str}{p pos:Pos}{e:Expr}{es:List Expr}{t:TA}{ea:Addr}{oe:Obj}
end
end L6
namespace Dv
open PySem PySem.Spec L2 L3 L4 L6
open PyProof.Rows hiding St
def kitF (K:PySem.W.Frag)(C:Addr)(isx:Nat->Bool):Nat->List Value->Prop
 |_,[]=>True
 |j,v::vs=>kitOne K (.ref C) v=some (isx j)/\kitF K C isx (j+1) vs
structure ExAt (K:PySem.W.Frag)(fd:Str)(ea C:Addr)(oe:Obj)(H:Hp):Prop where
 xi:XI K C
 cls:oe.cls=.ref C
 flds:∃fs,oe.data=.fields fs
 dic:oe.dict=none∨∃dx v,oe.dict=some dx/\H dx=some (.xd [(fd,v)])
def eSp (K:KW)(fd:Str)(tab:List Value)(m:Addr->(Nat->Bool)->List En->Option En):SpE:=λpn vs H Q=>
 ∃ea oe C isx F d,pn=[(ea,oe)]/\vs=[.ref ea]/\ExAt K fd ea C oe H/\kitF K C isx 0 tab/\Same F H/\m ea isx [.exn ea]=some (.val d)/\∀v F' H',Ext F H F' H'->Rp K F' d v->Q v H'
structure Ex1 (P:Program)(w:World)(K:PySem.W.Frag)(mg:Str->Option Value)(base:Heap)(fd:Str)(tab:List Value)(x:Str)(k:Nat)(m:Addr->(Nat->Bool)->List En->Option En):Prop where
 ex:∃f f0 ps,FnE P w K mg base k f f0 ps (eSp ⟨K,w⟩ fd tab m)/\mg x=some (.ref f)/\keepIn K (.ref f)=true/\Binds K f0 ps []
section
variable {P:Program}{w:World}{K:PySem.W.Frag}{mg:Str->Option Value}{base:Heap}
end
section
variable {X:Cx}{B:Bs}{C ea M2:Addr}{oe:Obj}{fd n x:Str}{i:Nat}{p2 p3 pI pC:Pos}{b:Bool}{T:String}
end
section
variable {X:Cx}{C:Addr}{fd n x:Str}{k kk:Nat}{p p2 pos:Pos}{tab:List Value}{m:Addr->(Nat->Bool)->List En->Option En}{isx:Nat->Bool}
end
theorem w4 {X:Cx}:OpR X (compareOp .LtE) (λx y H Q=>∃i j,x=.str i/\y=.str j/\Q (.bl (!decide (j.cps.toList < i.cps.toList))) H):=by
 intro pins s σ H x y v u Q I rx ry h
 obtain⟨i,j,rfl,rfl,q⟩:=h
 obtain⟨t,rfl⟩:=rx
 obtain⟨t',rfl⟩:=ry
 exact PySem.P.le_str ⟨.bl _,H,I,rfl,q⟩
def fLeT:D->D->Option D
 |.str i,.str j=>some (.bl (!decide (j.cps.toList < i.cps.toList)))
 |_,_=>none
@[simp]theorem vO {i j:Str}:fLeT (.str i) (.str j)=some (.bl (!decide (j.cps.toList < i.cps.toList))):=rfl
theorem wk {K:KW}:OkR K (λx y H Q=>∃i j,x=.str i/\y=.str j/\Q (.bl (!decide (j.cps.toList < i.cps.toList))) H) (pE K) fLeT:=by
 intro F H x y dx dy d Q s rx ry e k
 unfold fLeT at e
 split at e
 ·rename_i i j
  cases e
  have hx:=rx.one λ_ z=>(nomatch z)
  have hy:=ry.one λ_ z=>(nomatch z)
  exact⟨i,j,hx,hy,k _ F H (.refl s) rfl⟩
 ·cases e
section
variable {X:Cx}{B:Bs}{ca:Str->Addr}{fd:Str}{E:St->XK}{pos cpos:Pos}{a b c:Expr}{sa sb rest:List Stmt}{op:CmpOp}{g:EnvD->Option Xv}
end
inductive SuV (X:Cx) (C:Addr) (ie:Option Nat) (fd:Str):List Stmt->List (Nat×Jt)->Prop
 |nil:SuV X C ie fd [] []
 |cons {fx:Str} {e:Expr} {f:Jt} {i:Nat} {pF epos:Pos} {rest:List Stmt} {l:List (Nat×Jt)} (h:JtOk X C ie fd e f) (hi:X.N[i]?=some fx) (hiL:Loc X.env.scope fx) (hif:X.fn fx=true∨X.env.scope.names.lookup fx=some .local)
   (hs:swapsWith e (some (.Name fx pF)) epos.line X.env=pure false) (hr:SuV X C ie fd rest l):SuV X C ie fd (.Assign [.Name fx pF] e epos::rest) ((i,f)::l)
section
variable {X:Cx}{B:Bs}{C:Addr}{ie:Option Nat}{ca:Str->Addr}{fd:Str}
theorem YK {K:KW}{F:Hp}{σ:St}{H:Hp}{ρ:EnvD}{i:Nat}{u:Option V}(r:Rep K B F σ H ρ)(h:∀x,ρ[i]?≠some (some x)):Rep K B F (σ.set i u) H ρ:=by
 have ne:∀ {j:Nat} {x:En},ρ[j]?=some (some x)->j≠i:=fun {j x} e z=>by subst z;exact h x e
 refine⟨r.ex,by simp[r.len],λj x e=>?_,λj l y z v w e1 e2 s1 s2 hne=>?_⟩
 ·obtain⟨v,h1,h2⟩:=r.ents j x e
  exact⟨v,by rw[List.getElem?_set_ne (Ne.symm (ne e))];exact h1,h2⟩
 ·rw[List.getElem?_set_ne (Ne.symm (ne e1))] at s1
  rw[List.getElem?_set_ne (Ne.symm (ne e2))] at s2
  exact r.dj j l y z v w e1 e2 s1 s2 hne
end
structure ClV where
 ie:Option Nat
 its:List (Str×List (Nat×Jt))
inductive CvOk (X:Cx) (ca:Str->Addr) (fd:Str):List ExceptHandler->List ClV->Prop
 |nil:CvOk X ca fd [] []
 |as {xM n:Str} {MC:Addr} {ie:Nat} {its:List (Str×List (Nat×Jt))} {b0:Stmt} {suite:List Stmt} {rest:List ExceptHandler} {cls:List ClV} {pM hpos:Pos} (hg:Gl X xM) (hm:X.mg xM=some (.ref MC)) (hdb:(xM==("__debug__" : Str))=false)
   (hie:X.N[ie]?=some n) (hl:X.env.scope.names.lookup n=some .local) (hit:∀q∈its,SuV X (ca q.1) (some ie) fd (b0::suite) q.2) (hx:∀q∈its,XM X.K (ca q.1) MC) (hn:∀c∈cls,∀q∈c.its,XN X.K (ca q.1) MC) (hr:CvOk X ca fd rest cls) :
   CvOk X ca fd (.ExceptHandler (some (.Name xM pM)) (some n) (b0::suite) hpos::rest) (⟨some ie,its⟩::cls)
 |no {xM:Str} {MC:Addr} {its:List (Str×List (Nat×Jt))} {b0:Stmt} {suite:List Stmt} {rest:List ExceptHandler} {cls:List ClV} {pM hpos:Pos} (hg:Gl X xM) (hm:X.mg xM=some (.ref MC)) (hdb:(xM==("__debug__" : Str))=false)
   (hit:∀q∈its,SuV X (ca q.1) none fd (b0::suite) q.2) (hx:∀q∈its,XM X.K (ca q.1) MC) (hn:∀c∈cls,∀q∈c.its,XN X.K (ca q.1) MC) (hr:CvOk X ca fd rest cls) :
   CvOk X ca fd (.ExceptHandler (some (.Name xM pM)) none (b0::suite) hpos::rest) (⟨none,its⟩::cls)
section
variable {X:Cx}{B:Bs}{ca:Str->Addr}{fd:Str}
def okV (ie:Option Nat)(ρ:EnvD):Bool:=match ie with
 |none=>true
 |some k=>unset (ρ[k]?)
variable {gs:SD}{gx:EnvD->Option (EnvD×Xv)}{body:List Stmt}{h0:ExceptHandler}{hs:List ExceptHandler}{cls:List ClV}{pos:Pos}
end
section
variable {X:Cx}{pins:List (Addr×Obj)}{σ:St}{H:Hp}{s:Shared}
end
theorem yq {K:PySem.W.Frag}{C:Addr}{T:String}(h1:PySem.W.kitMeta T=true)(h3:subIn K (.ref C) (.type T)=some true):kitOne K (.ref C) (.type T)=some true:=by
 unfold kitOne
 split
 ·rfl
 ·unfold PySem.W.kitCls
  simp[h1,h3]
section
variable {X:Cx}{B:Bs}{pos:Pos}
end
section
variable {X:Cx}{B:Bs}{e a:Expr}{x:Str}{p p2 pos apos:Pos}{C M:Addr}{g:EnvD->Option D}
variable {mm:Str}{n k:Nat}{m:List En->Option En}{gxs:EnvD->Option (List En)}{o:Expr}{es:List Expr}
structure IO (K:PySem.W.Frag)(C:Addr):Prop where
 cl:Cls K C
 ha:findIn K (.ref C) "__class__" = some (some (.builtin "object.__class__"))
 hn:PySem.W.specialIn K (.builtin "object.__class__") "__get__" = some (some (.builtin "getset_descriptor.__get__"))
 htk:PySem.W.takesIn K (.builtin "object.__class__")=some true
 hm:PySem.W.mroIn K C (.type "object")=some true
end
structure BO (K:PySem.W.Frag)(V f:Addr):Prop where
 sp:PySem.W.specialIn K (.ref V) "__getattribute__" = some (some (.builtin "type.__getattribute__"))
 rd:PySem.W.readsIn K V (.type "type")=true
 fc:PySem.W.findCls K (.ref V) (.type "type") "__init__" = some (.val (.ref f))
 hn:PySem.W.handedIn (.ref f)=true
 kp:keepIn K (.ref f)=true
section
variable {X:Cx}{k:Nat}{f V:Addr}{fd:FuncData}{ps:List Str}{sp:Sp}{x:Str}{p pos apos:Pos}{e:Expr}{es:List Expr}{t:TA}
end
section
variable {K:KW}{B:Bs}{F H:Hp}{a dx C:Addr}{fs0:List (Str×V)}
end
section
variable {X:Cx}{B:Bs}{k n:Nat}{f V C:Addr}{fd:FuncData}{ps:List Str}{x y:Str}{p p2 pos apos cpos:Pos}{es:List Expr}{gs:EnvD->Option (List En)}{mi:Addr->Addr->List En->Option (List Str×List D)}
structure Bo (P:Program)(w:World)(K:PySem.W.Frag)(mg:Str->Option Value)(base:Heap)(V C:Addr)(k n:Nat)(mi:Addr->Addr->List En->Option (List Str×List D)):Prop where
 ex:∃f f0 ps,BO K V f/\FnOk P w K mg base CX0 k f f0 ps (iSp ⟨K,w⟩ C n mi)/\Binds K f0 ps []
end
end Dv
namespace L4
open PySem PySem.Spec L2 L3
open PyProof.Rows hiding St
end L4
namespace Dv
open PySem PySem.Spec L2 L3 L4 L6
open PyProof.Rows hiding St
section
variable {X:Cx}{B:Bs}{e:Expr}{pos p1 p2:Pos}{k:Str}{v:Int}{gk:EnvD->Option (List (Key×D))}
end
section
variable {X:Cx}{B:Bs}{e a o:Expr}{es:List Expr}{g:EnvD->Option OT}{ks:List Nat}{k:Nat}{pos p apos cpos:Pos}{nm:Str}{id:String}{r:V->List V->Hp->VK->Prop}{f:List D->List D->Option (List D)}{gs:EnvD->Option (List D)}
end
section
variable {X:Cx}{B:Bs}{e:Expr}{g:EnvD->Option D}{pos p2:Pos}
end
end Dv
namespace L4
open PySem PySem.Spec L2 L3
open PyProof.Rows hiding St
section
variable {X:Cx}
end
end L4
namespace Dv
open PySem PySem.Spec L2 L3 L4 L6
open PyProof.Rows hiding St
section
variable {X:Cx}{B:Bs}{e:Expr}{pos p:Pos}{gk:EnvD->Option (List (Key×D))}
end
def pB (K:KW)(B:Bs):Post En:=λ_ _ F' _ x v=>(∃d,x=.val d/\Rp K F' d v)∨∃ds a vs,x=.bor ds/\v=.ref a/\B.H0 a=some (.lst vs)/\Rps K F' ds vs
section
variable {X:Cx}{B:Bs}{e a b c:Expr}{pos pos':Pos}{x:Str}{i:Nat}{g:EnvD->Option D}{ga gb:EnvD->Option En}{ta:EnvD->Option Bool}
end
section
variable {X:Cx}{B:Bs}{o:Expr}{apos cpos pos:Pos}{i:Nat}{gp:EnvD->Option (List Nat)}
end
section
variable {K:KW}{B:Bs}{F H:Hp}
end
section
variable {X:Cx}{B:Bs}{e tg ck:Expr}{es:List Expr}{x:Str}{pos p p1 p2:Pos}{g:EnvD->Option OT}{gd:EnvD->Option D}{gs:EnvD->Option (List D)}
end
section
variable {X:Cx}{B:Bs}{C f:Addr}{e:Expr}{es:List Expr}{x y fl:Str}{pos p pos':Pos}{k n i:Nat}{fd:FuncData}{ps:List Str}{gxs:EnvD->Option (List En)}{g:EnvD->Option (List Str×List D)}{gd:EnvD->Option D}
end
section
variable {X:Cx}{C:Addr}{T:String}{fd n x:Str}{ie:Nat}{p2 p3 pI pC pos:Pos}{b b1 b2 b3:Bool}{e1 e2:Expr}
end
section
variable {X:Cx}{C:Addr}{fd:Str}{ie:Option Nat}{pos:Pos}{a b:Expr}{f g:Jt}
end
mutual
def MT.er:MT->Option D
 |.lf d=>some d
 |.lst ts=>(ers ts).map D.lst
 |.tup ts=>(ers ts).map D.tup
 |.obj C fs ts=>(ers ts).map (D.obj C fs)
 |.dct _ _=>none
def ers:List MT->Option (List D)
 | []=>some []
 |t::ts=>t.er.bind λd=>(ers ts).map (d::·)
end
section
variable {K:KW}{F H:Hp}
end
mutual
def flatO:OT->Bool
 |.frz d=>scal d
 |.lst ts=>flatOs ts
 |.tup ts=>flatOs ts
def flatOs:List OT->Bool
 | []=>true
 |t::ts=>flatO t&&flatOs ts
end
section
variable {X:Cx}{B:Bs}{e a b:Expr}{es:List Expr}{pos p:Pos}{gxs:EnvD->Option (List En)}{x:Str}{k n:Nat}{m:List En->Option En}{ga gb:EnvD->Option D}
end
structure RyM (P:Program)(w:World)(K:PySem.W.Frag)(mg:Str->Option Value)(base:Heap)(ca:Str->Addr)(fd:Str)(C:Addr)(mm:Str)(k n:Nat)(m:List En->Option Xv):Prop where
 ex:∃f f0 ps,FnOk P w K mg base (CX1 P w) k f f0 ps (ySp ⟨K,w⟩ ca fd n m)/\Meth K C mm f/\Binds K f0 ps []
section
variable {X:Cx}{B:Bs}{ca:Str->Addr}{fd mm:Str}{E:St->XK}{pos p apos:Pos}{e o:Expr}{es:List Expr}{k n:Nat}{g:EnvD->Option D}{gxs:EnvD->Option (List En)}{m:List En->Option Xv}{C:Addr}
end
end Dv
namespace L6
open PySem PySem.Spec L2 L3 L4
open PyProof.Rows hiding St
open Dv (exAt)
section
variable {X:Cx}{C HE fI:Addr}{fd x:Str}{pos p cpos:Pos}{a:Expr}{t:TA}{k:Nat}{f0:FuncData}{ps:List Str}
def tMk0 (C:Addr)(t:TA):TE:=λσ H Q=>t σ H λvs H1=>vs.length=1/\∀e oe,oe.cls=.ref C->oe.dict=none->(∃z,oe.data=.fields z)->H1 e=none->Q (.ref e) (upd H1 e (exAt e oe))
theorem Qf (xc:XC0 X.K C)(hg:Gl X x)(hm:X.mg x=some (.ref C))(ha:PA X [a] t)(hdb:(x==("__debug__" : Str))=false:=by decide +kernel)
  (he:starEach [a] X.env=(false,eval a X.env)::starEach [] X.env:=by rfl) (hpl:(backTo cpos (starEach [] X.env)).any (·.1)=false:=by rfl) :
  PE X (.Call (.Name x p) [a] [] cpos) (tMk0 C t):=by
 intro pins s σ H Q I h
 refine wpAny_Call_Name_kw (yv I hg hm ?_ hdb)
 refine PySem.W.callWith_K (h₀:=X.base) I.ok.mod.kin xc.kp (thn (ha cpos pins s σ H _ I h) λus s1 ⟨vs,H1,I1,r1,ev,q⟩=>⟨I1.kIn,?_⟩) he hpl
 obtain⟨nm',qq',N2,bs',bm',hdct',sn',sub',ab',col',dd',k0',k1',k2',k3',k5',mN',hC',hN',hi',T'⟩:=xc.at I1.kIn
 have hl1:us.length<=sizeLine:=by rw[<-r1.length,ev,sizeLine_eq];omega
 obtain⟨hh1,g,d,tk,os⟩:=s1
 refine uP PySem.F.excBase_ValueError T' hC' hN' hi' (λh' e t' l1 l2 l3=>?_) hl1
 have I2:Inv X pins σ (upd H1 e (ExO e C t' none)) ⟨h',g,d,tk,os⟩:=I1.laid (a:=e) (o:=ExO e C t' none) (h':=h') (t':=tk) (λb o q=>l3 b o q) l1 (xQ l2)
 exact⟨.ref e,_,I2,rfl,q e { cls:=.ref C,dict:=none,data:=.fields #[.ref t',.none,.none,.none,.bool false,.none] } rfl rfl ⟨_,rfl⟩ (I1.hok.fresh l1)⟩
def tMk1 (C:Addr)(fd:Str)(t:TA):TE:=λσ H Q=>t σ H λvs H1=>∃v,vs=[v]/\∀e dx oe,oe.cls=.ref C->oe.dict=some dx->(∃z,oe.data=.fields z)->H1 e=none->H1 dx=none->dx≠e->Q (.ref e) (upd (upd H1 e (exAt e oe)) dx (.xd [(fd,v)]))
theorem Kl (xc:XC X.K C HE fI fd)(F:FnOk X.prog X.w X.K X.mg X.base CX0 k fI f0 ps (xiSp C fd))(hr:Room (k+1) X.A)(hb:Binds X.K f0 ps [])
  (hg:Gl X x) (hm:X.mg x=some (.ref C)) (ha:PA X [a] t) (hdb:(x==("__debug__" : Str))=false:=by decide +kernel)
  (he:starEach [a] X.env=(false,eval a X.env)::starEach [] X.env:=by rfl) (hpl:(backTo cpos (starEach [] X.env)).any (·.1)=false:=by rfl) :
  PE X (.Call (.Name x p) [a] [] cpos) (tMk1 C fd t):=by
 intro pins s σ H Q I h
 refine wpAny_Call_Name_kw (yv I hg hm ?_ hdb)
 refine PySem.W.callWith_K (h₀:=X.base) I.ok.mod.kin xc.kp (thn (ha cpos pins s σ H _ I h) λus s1 ⟨vs,H1,I1,r1,v,ev,q⟩=>⟨I1.kIn,?_⟩) he hpl
 subst ev
 cases r1 with
 | @cons _ u _ _ ru r2=>
 cases r2
 refine Je xc F hr hb I1 ru λe t' dx s' I2 he hdx hde hl=>?_
 rw[yS] at I2
 exact⟨.ref e,_,I2,rfl,q e dx { cls:=.ref C,dict:=some dx,data:=.fields #[.ref t',.none,.none,.none,.bool false,.none] } rfl rfl ⟨_,rfl⟩ he hdx hde⟩
end
end L6
namespace Dv
open PySem PySem.Spec L2 L3 L4 L6
open PyProof.Rows hiding St
section
variable {X:Cx}{B:Bs}{C HE fI:Addr}{fd x:Str}{pos p cpos:Pos}{a:Expr}{k:Nat}{f0:FuncData}{ps:List Str}{g:EnvD->Option D}
def gMk0 (C:Addr)(g:EnvD->Option D):EnvD->Option D:=λρ=>(g ρ).map λ_=>.xc (.exc C [])
@[simp]theorem GQ {ρ:EnvD}:gMk0 C g ρ=(g ρ).map λ_=>.xc (.exc C []):=rfl
theorem vq (xc:XC0 X.K C)(hg:Gl X x)(hm:X.mg x=some (.ref C))(ha:DE X B a g)(hdb:(x==("__debug__" : Str))=false:=by decide +kernel)
  (he:starEach [a] X.env=(false,eval a X.env)::starEach [] X.env:=by rfl) (hpl:(backTo cpos (starEach [] X.env)).any (·.1)=false:=by rfl) :
  DE X B (.Call (.Name x p) [a] [] cpos) (gMk0 C g) :=
 zr (Qf xc hg hm (z5 ha zQ he) hdb he hpl) λσ H Q zz=>zz.el λF ρ d r hg kk=>by
  obtain⟨d0,q,e⟩:=Option.map_eq_some_iff.mp hg
  subst e
  exact⟨F,ρ,d0,r,q,λv F1 H1 e1 p1=>⟨rfl,λe oe h1 h2 h3 hn=>kk (.ref e) (upd F1 e (exAt e oe)) _ (e1.trans (Ext.newF e1.fh hn)) ⟨e,oe,rfl,zm,h1,h3,h2⟩⟩⟩
def gMk1 (C:Addr)(fd:Str)(g:EnvD->Option D):EnvD->Option D:=λρ=>(g ρ).bind λd=>(dKey d).map λk=>.xc (.exc C [(fd,k)])
@[simp]theorem U5 {ρ:EnvD}:gMk1 C fd g ρ=(g ρ).bind λd=>(dKey d).map λk=>.xc (.exc C [(fd,k)]):=rfl
theorem j8 {K:KW}{F:Hp}{d:D}{v:V}{k:Key}(r:Rp K F d v)(h:dKey d=some k):v=kV k:=by
 cases d with
 |int i=>cases h;exact r
 |str i=>cases h;exact r
 |_=>cases h
theorem xO (xc:XC X.K C HE fI fd)(F:FnOk X.prog X.w X.K X.mg X.base CX0 k fI f0 ps (xiSp C fd))(hr:Room (k+1) X.A)(hb:Binds X.K f0 ps [])
  (hg:Gl X x) (hm:X.mg x=some (.ref C)) (ha:DE X B a g) (hdb:(x==("__debug__" : Str))=false:=by decide +kernel)
  (he:starEach [a] X.env=(false,eval a X.env)::starEach [] X.env:=by rfl) (hpl:(backTo cpos (starEach [] X.env)).any (·.1)=false:=by rfl) :
  DE X B (.Call (.Name x p) [a] [] cpos) (gMk1 C fd g) :=
 zr (Kl xc F hr hb hg hm (z5 ha zQ he) hdb he hpl) λσ H Q zz=>zz.el λF ρ d r hg kk=>by
  obtain⟨d0,q,hg⟩:=Option.bind_eq_some_iff.mp hg
  obtain⟨ky,q2,e⟩:=Option.map_eq_some_iff.mp hg
  subst e
  refine⟨F,ρ,d0,r,q,λv F1 H1 e1 p1=>⟨v,rfl,λe dx oe h1 h2 h3 hn hnx hne=>?_⟩⟩
  have hv:=j8 p1 q2
  have e2:=Ext.newF (o:=exAt e oe) e1.fh hn
  have hn2:upd H1 e (exAt e oe) dx=none:=by rw[zf hne];exact hnx
  have e3:=Ext.newF (o:=.xd [(fd,v)]) e2.fh hn2
  refine kk (.ref e) _ _ (e1.trans (e2.trans e3)) ⟨e,oe,rfl,?_,h1,h3,dx,h2,?_⟩
  ·rw[zf (Ne.symm hne)];exact zm
  ·rw[zm,hv];rfl
end
end Dv
namespace L6
open PySem PySem.Spec L2 L3 L4
open PyProof.Rows hiding St
open Dv (exAt)
def rIsV (K:PySem.W.Frag)(cv:V)(cu:Value):List V->Hp->VK->Prop:=λxs H Q=>∃ea oe C b,xs=[.ref ea,cv]/\H ea=some (exAt ea oe)/\oe.cls=.ref C/\(∃z,oe.data=.fields z)/\(oe.dict=none∨∃dx fs,oe.dict=some dx/\H dx=some (.xd fs))/\XI K C/\kitOne K (.ref C) cu=some b/\Q (.bl b) H
theorem uM {X:Cx}{cv:V}{cu:Value}(hr:∀u,RelV cv u->u=cu):CallR X (.builtin "isinstance") (rIsV X.K cv cu):=by
 intro pins s σ H xs us Q I r h
 obtain⟨ea,oe,C,b,rfl,he,hc,⟨fs,hf⟩,hdd,xi,z,q⟩:=h
 cases r with
 | @cons _ u1 _ _ r1 r2=>
 cases r2 with
 | @cons _ u2 _ _ r3 r4=>
 cases r4
 obtain rfl:u1=Value.ref ea:=r1
 obtain rfl:=hr _ r3
 have he:=(show ObjOk X.prog X.w H s.heap ea (exAt ea oe) from I.hok ea _ he).1
 have hn:PySem.W.notCls oe=true:=by unfold PySem.W.notCls;rw[hf]
 have IA:ExcAt ea C s.heap:=by
  rcases hdd with e0 | ⟨dx,fs,e1,e2⟩
  ·exact⟨oe,none,he,hc,hn,by rw[e0];trivial⟩
  ·obtain⟨mA,hm,_⟩:=I.hok dx _ e2
   obtain⟨o,_,_,ho,_⟩:=hm.ns
   exact⟨oe,some o,he,hc,hn,by rw[e1];exact ho⟩
 exact QD xi I.kIn IA z λtk=>⟨.bl b,H,I.tok tk,rfl,q⟩
structure XF (K:PySem.W.Frag)(C:Addr)(fd:Str):Prop where
 sub:subIn K (.ref C) (.type "BaseException")=some true
 ga:findIn K (.ref C) "__getattribute__" = some (some (.builtin "BaseException.__getattribute__"))
 gt:findIn K (.ref C) "__getattr__" = some none
 na:findIn K (.ref C) fd=some none
 hd:hasDictIn K C=true
theorem XC.xf {K:PySem.W.Frag}{C HE fI:Addr}{fd:Str}(x:XC K C HE fI fd):XF K C fd:=⟨x.sub,x.ga,x.gt,x.na,x.hd⟩
section
variable {X:Cx}{o:Expr}{fd:Str}{pos:Pos}{t:TE}
def tXat (K:PySem.W.Frag)(fd:Str)(t:TE):TE:=λσ H Q=>t σ H λv H1=>∃ea oe C dx gs y,v=.ref ea/\H1 ea=some (exAt ea oe)/\oe.cls=.ref C/\(∃z,oe.data=.fields z)/\oe.dict=some dx/\H1 dx=some (.xd gs)/\gs.lookup fd=some y/\XF K C fd/\Q y H1
theorem Jz (ha:PE X o t)(hb:attributeBase o fd X.env (eval o X.env)=eval o X.env:=by rfl):PE X (.Attribute o fd pos) (tXat X.K fd t):=by
 intro pins s σ H Q I h
 refine Zi hb (thn (ha pins s σ H _ I h) λu s1 ⟨x,H1,I1,rx,ea,oe,C,dx,gs,y,ex,he,hc,⟨z,hf⟩,hd,hx,hl,xf,q⟩=>?_)
 subst ex
 obtain rfl:u=Value.ref ea:=rx
 obtain⟨mA,hn,hr⟩:=(I1.hok dx _ hx)
 have:=hr fd
 rw[hl] at this
 obtain⟨w,hw,rw'⟩:=RelO.some_of this
 have he:=(show ObjOk X.prog X.w H1 s1.heap ea (exAt ea oe) from I1.hok ea _ he).1
 exact Km I1.kIn he hc hd hf hn xf.sub xf.ga xf.gt xf.na xf.hd hw (Yi rw') ⟨y,_,I1.tok _,rw',q⟩
end
end L6
namespace Dv
open PySem PySem.Spec L2 L3 L4 L6
open PyProof.Rows hiding St
theorem uF {F H:Hp}(s:Same F H){C:Addr}{v:V}:∀ {fs:List (Str×Key)},RXt F (.exc C fs) v->∃ea oe,v=.ref ea/\H ea=some (exAt ea oe)/\oe.cls=.ref C/\(∃z,oe.data=.fields z)/\(oe.dict=none∨∃dx gs,oe.dict=some dx/\H dx=some (.xd gs))
 | [],⟨ea,oe,e,h1,h2,h3,h4⟩=>⟨ea,oe,e,s _ _ h1,h2,h3,.inl h4⟩
 |_::_,⟨ea,oe,e,h1,h2,h3,dx,h4,h5⟩=>⟨ea,oe,e,s _ _ h1,h2,h3,.inr ⟨dx,_,h4,s _ _ h5⟩⟩
section
variable {X:Cx}{B:Bs}{a:Expr}{x fd:Str}{M2:Addr}{p3 pI pC pos p1 p2:Pos}{g:EnvD->Option D}{tab:List (Addr×Bool)}{T:String}{cls:List Addr}
def isV (tab:List (Addr×Bool)):D->Option D
 |.xc (.exc C _)=>(tab.lookup C).map D.bl
 |_=>none
def gIsV (tab:List (Addr×Bool))(g:EnvD->Option D):EnvD->Option D:=λρ=>(g ρ).bind (isV tab)
@[simp]theorem Ge {ρ:EnvD}:gIsV tab g ρ=(g ρ).bind (isV tab):=rfl
theorem Yl {d d':D}(h:isV tab d=some d'):∃C fs b,d=.xc (.exc C fs)/\tab.lookup C=some b/\d'=.bl b:=by
 unfold isV at h
 split at h
 ·obtain⟨b,q,e⟩:=Option.map_eq_some_iff.mp h
  exact⟨_,_,b,rfl,q,e.symm⟩
 ·cases h
theorem j5 {C:Addr}{b:Bool}:∀ {tab:List (Addr×Bool)},tab.lookup C=some b->(C,b)∈tab
 | [],h=>by cases h
 | (a,c)::t,h=>by
  rw[List.lookup_cons] at h
  split at h
  ·rename_i e
   cases h
   rw[eq_of_beq e];exact .head _
  ·exact .tail _ (j5 h)
theorem yb (ht:∀q∈tab,XI X.K q.1/\kitOne X.K (.ref q.1) (.ref M2)=some q.2)(hgI:Gl X "isinstance") (hmI:X.mg "isinstance" = none) (hg:Gl X x) (hm:X.mg x=some (.ref M2)) (ha:DE X B a g) (hdb:(x==("__debug__" : Str))=false:=by decide +kernel)
  (he:starEach [a,.Name x p3] X.env=(false,eval a X.env)::starEach [.Name x p3] X.env:=by rfl) (he2:starEach [.Name x p3] X.env=(false,eval (.Name x p3) X.env)::starEach [] X.env:=by rfl) (hpl:(backTo pC (starEach [.Name x p3] X.env)).any (·.1)=false:=by rfl) :
  DE X B (.Call (.Name "isinstance" pI) [a,.Name x p3] [] pC) (gIsV tab g) :=
 zr (jj (uM (cv:=.ref M2) (cu:=.ref M2) λu r=>r) hgI hmI (by decide +kernel) (z5 ha (z5 (Zf hg hm (v:=.ref M2) rfl hdb) zQ he2) he) (by decide) (by decide) he hpl) λσ H Q zz=>zz.el λF ρ d r hgd k=>by
  obtain⟨d0,q,h1⟩:=Option.bind_eq_some_iff.mp hgd
  obtain⟨C,fs,b,rfl,q2,rfl⟩:=Yl h1
  obtain⟨t1,t2⟩:=ht _ (j5 q2)
  refine⟨F,ρ,_,r,q,λv F1 H1 e1 p1=>?_⟩
  obtain⟨ea,oe,rfl,h2,h3,h4,h5⟩:=uF e1.fh p1
  exact⟨ea,oe,C,b,rfl,h2,h3,h4,h5,t1,t2,k _ F1 H1 e1 rfl⟩
theorem V0 (ht:∀q∈tab,XI X.K q.1/\kitOne X.K (.ref q.1) (.type T)=some q.2)(hgI:Gl X "isinstance") (hmI:X.mg "isinstance" = none) (hgT:Gl X x) (hmT:X.mg x=none) (hvT:bootBuiltins x=some (.type T)) (ha:DE X B a g) (hnT:x ≠ "__name__" := by decide) (hdT:(x==("__debug__" : Str))=false:=by decide)
  (he:starEach [a,.Name x p3] X.env=(false,eval a X.env)::starEach [.Name x p3] X.env:=by rfl) (he2:starEach [.Name x p3] X.env=(false,eval (.Name x p3) X.env)::starEach [] X.env:=by rfl) (hpl:(backTo pC (starEach [.Name x p3] X.env)).any (·.1)=false:=by rfl) :
  DE X B (.Call (.Name "isinstance" pI) [a,.Name x p3] [] pC) (gIsV tab g) :=
 zr (jj (uM (cv:=.ty T) (cu:=.type T) λu r=>r) hgI hmI (by decide +kernel) (z5 ha (z5 (kK hgT hmT hvT (v:=.ty T) rfl hnT hdT) zQ he2) he) (by decide) (by decide) he hpl) λσ H Q zz=>zz.el λF ρ d r hgd k=>by
  obtain⟨d0,q,h1⟩:=Option.bind_eq_some_iff.mp hgd
  obtain⟨C,fs,b,rfl,q2,rfl⟩:=Yl h1
  obtain⟨t1,t2⟩:=ht _ (j5 q2)
  refine⟨F,ρ,_,r,q,λv F1 H1 e1 p1=>?_⟩
  obtain⟨ea,oe,rfl,h2,h3,h4,h5⟩:=uF e1.fh p1
  exact⟨ea,oe,C,b,rfl,h2,h3,h4,h5,t1,t2,k _ F1 H1 e1 rfl⟩
def xatD (cls:List Addr)(fd:Str):D->Option D
 |.xc (.exc C fs)=>if C∈cls then (fs.lookup fd).map kD else none
 |_=>none
def gXat (cls:List Addr)(fd:Str)(g:EnvD->Option D):EnvD->Option D:=λρ=>(g ρ).bind (xatD cls fd)
@[simp]theorem GG {ρ:EnvD}:gXat cls fd g ρ=(g ρ).bind (xatD cls fd):=rfl
theorem kU (fd:Str):∀(fs:List (Str×Key)) {k:Key},fs.lookup fd=some k->(fs.map λp=>(p.1,kV p.2)).lookup fd=some (kV k)
 | [],_,h=>by cases h
 | (a,c)::t,k,h=>by
  rw[List.lookup_cons] at h
  rw[List.map_cons,List.lookup_cons]
  split at h
  ·rename_i e
   cases h
   rw[e]
  ·rename_i e
   rw[e];exact kU fd t h
theorem vV (ht:∀C∈cls,XF X.K C fd)(ha:DE X B a g)(hb:attributeBase a fd X.env (eval a X.env)=eval a X.env:=by rfl):DE X B (.Attribute a fd pos) (gXat cls fd g) :=
 zr (Jz ha hb) λσ H Q zz=>zz.el λF ρ d r hgd k=>by
  obtain⟨d0,q,h1⟩:=Option.bind_eq_some_iff.mp hgd
  unfold xatD at h1
  split at h1
  ·rename_i C fs
   split at h1
   ·rename_i hC
    obtain⟨ky,q2,rfl⟩:=Option.map_eq_some_iff.mp h1
    refine⟨F,ρ,_,r,q,λv F1 H1 e1 p1=>?_⟩
    cases fs with
    |nil=>cases q2
    |cons f fs=>
     obtain⟨ea,oe,rfl,h2,h3,h4,dx,h5,h6⟩:=(show RXt F1 (.exc C (f::fs)) v from p1)
     exact⟨ea,oe,C,dx,_,kV ky,rfl,e1.fh _ _ h2,h3,h4,h5,e1.fh _ _ h6,kU fd _ q2,ht C hC,k _ F1 H1 e1 (by cases ky<;>rfl)⟩
   ·cases h1
  ·cases h1
end
end Dv
namespace L6
open PySem PySem.Spec L2 L3 L4
open PyProof.Rows hiding St
open Dv (exAt)
section
variable {X:Cx}{pins:List (Addr×Obj)}{σ:St}{H:Hp}{s:Shared}{h':Heap}{dx:Addr}{fs fs':List (Str×V)}{t':Nat}
theorem KU (I:Inv X pins σ H s)(hx:H dx=some (.xd fs))(k:∀b u,b≠dx->s.heap.get? b=some u->h'.get? b=some u)(heo:∃u,h'.get? dx=some u)(new:ObjOk X.prog X.w (upd H dx (.xd fs')) h' dx (.xd fs')):Inv X pins σ (upd H dx (.xd fs')) { s with heap:=h',toks:=t' }:=by
 have hb:∀b,H b=none->b≠dx:=λb n z=>by subst z;rw[n] at hx;cases hx
 have ho:∀b u,H b=some u->(∀gs,u≠.xd gs)->b≠dx:=λb u q n z=>by subst z;rw[q] at hx;cases hx;exact n _ rfl
 refine I.un ⟨λb u q n _ _=>k b u (hb b n) q,λb u q n _ _=>⟨u.slots,k b u (hb b n) q⟩,λb u q n _=>by rw[zf (hb b n)];exact n,λb u q _=>?_,λb xs q=>by rw[zf (ho b _ q λ_ z=>nomatch z)];exact q,λb u xs q=>by rw[zf (ho b _ q λ_ z=>nomatch z)];exact q,λb ps q=>⟨#[],by rw[zf (ho b _ q λ_ z=>nomatch z),q];simp⟩⟩ λb u q=>?_
 ·by_cases hbe:b=dx
  ·subst hbe;exact heo
  ·exact⟨u,k b u hbe q⟩
 ·by_cases hbe:b=dx
  ·subst hbe;rw[zm] at q;cases q;exact new
  ·rw[zf hbe] at q
   refine (I.hok b u q).stay (λc v hc r=>k c v ?_ r) (λc r=>by rw[zf (ho c _ r λ_ z=>nomatch z)];exact r) λc xs r=>by rw[zf (ho c _ r λ_ z=>nomatch z)];exact r
   rcases hc with rfl | hc
   ·exact hbe
   ·exact ho c _ hc λ_ z=>nomatch z
end
section
variable {prog:Program}{w:World}{A:Around}{E:Value->Shared->Prop}{s:Shared}{K:PySem.W.Frag}{x dx C f:Addr}{mA:Str->Option Value}{name:Str}{v:Value}
theorem Y6 {cd0:ClassData}{bm:List Value}(hc0:clsIn K C=some cd0)(hmr:cd0.mro=.ref C::bm){ox:Obj}{fs:Array Value}{Q:Unit->Shared->Prop}(X:K.In s.heap)(ho:s.heap.get? x=some ox)(hc:ox.cls=.ref C)(hd:ox.dict=some dx)(hf:ox.data=.fields fs)(hn:s.heap.Ns1 dx mA){ns:List Str}(hw:Within mA ns)(hl:ns.length<=10)
  (hs:findIn K (.ref C) "__setattr__" = some (some (.builtin "object.__setattr__"))) (T:OwnTail s.heap vB bm) (ht:takerIn K C name=some none) (hh:hasDictIn K C=true)
  (h:∀h',h'.Ns1 dx (λy=>if y=name then some v else mA y)->(∀b o,b≠dx->s.heap.get? b=some o->h'.get? b=some o)->Q () { s with heap:=h',toks:=s.toks+2 }) :
  wpAny (model prog w) A (setAttr (.ref x) name v) Q E s:=by
 obtain⟨od,_,_,hod,_⟩:=hn.ns
 have J:InstAt s.heap x ox C (some od):=⟨ho,hc,by unfold PySem.W.notCls;rw[hf],by rw[hd];exact hod⟩
 refine PySem.W.set_plain X J hs (Ze (s:={ s with toks:=s.toks+1 }) X J hc0 hmr T ht λb=>?_)
 obtain⟨oc,odi,oda,osl⟩:=ox
 dsimp only at hc hd hf
 subst hc hd hf
 obtain⟨cd,hcd,hd'⟩:=PySem.W.any_some hh
 refine wpAny_bind (wpAny_pure (wpAny_bind (wpAny_bind (wpAny_loadPart ho (wpAny_bind (PySem.W.Looks.here (s:={ s with toks:=s.toks+1 }) (PySem.W.looks_clsIn X hcd) ?_))))))
 rw[hd']
 rw[if_neg (by decide)]
 dsimp only
 refine wpAny_pure ?_
 show wpAny _ _ (Builtin.ObjectAttr.storeInDict dx (.str name s.toks) name v) _ _ _
 unfold Builtin.ObjectAttr.storeInDict Builtin.ObjectAttr.newKeyGuard
 refine wpAny_bind (wpAny_pure (wpAny_bind (wpAny_nsSet1 hn λh' hn' hs=>?_)))
 obtain⟨oD,esD,epD,hoD,hdD,hcD⟩:=hn'.count (Within.cons name v hw)
 refine wpAny_bind (wpAny_lookBehind hoD (by rw[hdD];exact pastItsLine_dict (Nat.le_trans hcD (by rw[List.length_cons,sizeLine_eq];omega))) ?_)
 exact wpAny_pure (h h' hn' λb o hb q=>(hs.2 b hb).trans q)
end
def xiSp2 (C:Addr)(f1 f2:Str):Sp:=λvs H Q _=>∃e v1 v2 t,vs=[.ref e,v1,v2]/\H e=some (ExO e C t none)/\∀t' dx,H dx=none->dx≠e->Q .non (upd (upd H e (ExO e C t' (some dx))) dx (.xd [(f1,v1),(f2,v2)]))
section
variable {X:Cx}{C HE fI:Addr}{fd f1 f2 x:Str}{pos p apos pa pb pos':Pos}{a b c:Expr}{ta tb:TE}
def tBase3 (C:Addr)(t:TA):TE:=λσ H Q=>t σ H λvs H2=>∃e v w t,vs=[.ref e,v,w]/\H2 e=some (ExO e C t none)/\∀t',Q .non (upd H2 e (ExO e C t' none))
theorem WG {pl:Sem Bool}{t:TA}(xc:XC X.K C HE fI fd)(hg:Gl X x)(hm:X.mg x=some (.ref HE))(ha:PA X [a,b,c] t)
  (hdb:(x==("__debug__" : Str))=false:=by decide +kernel)
  (hst:starEach [a,b,c] X.env=(false,eval a X.env)::starEach [b,c] X.env:=by rfl) (hpl:(backTo pos (starEach [b,c] X.env)).any (·.1)=false:=by rfl)
  (ht:eval (.Call (.Attribute (.Name x p) "__init__" apos) [a,b,c] [] pos) X.env=(do
   let ov <-eval (.Name x p) X.env
   standAt apos.atName
   let (f,first) <-holding [ov] (getMethod ov "__init__" pl)
   callWith pos f first (backTo pos (starEach [a,b,c] X.env)) (backToKw pos (keywordEach [] X.env))):=by rfl) :
  PE X (.Call (.Attribute (.Name x p) "__init__" apos) [a,b,c] [] pos) (tBase3 C t):=by
 intro pins s σ H Q I h
 refine PySem.W.methodCall_KW (pl:=pl) (yv I hg hm ?_ hdb) ht
 refine PySem.W.method_cls I.kIn xc.sp (PySem.W.cls_value I.kIn xc.rd xc.fc rfl ?_)
 have I0:=I.tok (s.toks+1)
 refine callWith_method1 (first:=[]) (thn (ha pos pins _ σ H _ I0 h) λus s1 ⟨vs,H1,I1,r1,q1⟩=>?_) hst hpl
 obtain⟨e,v,w,t0,rfl,he,q⟩:=q1
 cases r1 with
 | @cons _ u1 _ _ ru r2=>
 cases r2 with
 | @cons _ u2 _ _ rv r3=>
 cases r3 with
 | @cons _ u3 _ _ rw' r4=>
 cases r4
 obtain rfl:u1=Value.ref e:=ru
 obtain⟨nm,qq,N,bs,bm,hdct,sn,sub,ab,col,dd,k0,k1,k2,k3,k5,mN,hC,hN,hi,T⟩:=xc.at I1.kIn
 have he':=(I1.hok e _ he).1
 obtain⟨hh,g,d,tk,os⟩:=s1
 refine jB PySem.F.excBase_ValueError T hC he' (by rw[List.length_cons,List.length_cons,List.length_nil,sizeLine_eq];omega) λh' k1' k2'=>?_
 refine⟨.non,_,I1.write (x:=e) (e:=e) (o:=ExO e C hh.objs.size none) (h':=h') (t':=tk) (by rw[he];exact True.intro) (.inl rfl) (λb u hb z=>k2' b u hb z) ⟨_,k1'⟩ (xQ k1'),rfl,q _⟩
def sNext2 (C:Addr)(f1 fd:Str)(ta tv:TE):TS:=λD σ H=>tv σ H λy H1=>ta σ H1 λx H2=>∃e t dx v,x=.ref e/\H2 e=some (ExO e C t (some dx))/\H2 dx=some (.xd [(f1,v)])/\D.nx σ (upd H2 dx (.xd [(f1,v),(fd,y)]))
theorem V2 {o value:Expr}{tv:TE}(xc:XC X.K C HE fI fd)(hne:f1≠fd)(ha:PE X o ta)(hv:PE X value tv)(hs:swapsWith value (some (.Attribute o fd pos')) pos.line X.env=pure false):PS X (.Assign [.Attribute o fd pos'] value pos) (sNext2 C f1 fd ta tv):=by
 intro pins s σ H D I h
 refine plainObj_wpAny_Assign_Attribute (thn (hv pins s σ H _ I h) λu s1 ⟨y,H1,I1,ry,q⟩=>thn (ha pins s1 σ H1 _ I1 q) λov s2 ⟨x,H2,I2,rx,e,t,dx,v,ex,ee,ed,q2⟩=>?_) hs
 subst ex
 obtain rfl:ov=Value.ref e:=rx
 have he:=(I2.hok e _ ee).1
 obtain⟨mA,hn,hr⟩:=(show ObjOk X.prog X.w H2 s2.heap dx (.xd [(f1,v)]) from I2.hok dx _ ed)
 obtain⟨cd0,bm0,hc0,hm0,T0⟩:=xc.clsOf I2.kIn
 have hw:Within mA [f1]:=λy hy=>by
  have:=hr y
  by_cases hf:y=f1
  ·rw[hf];exact .head _
  ·have hb:(y==f1)=false:=by simpa using hf
   rw[show List.lookup y [(f1,v)]=none by simp only[List.lookup,hb]] at this
   cases hm:mA y with
   |none=>exact absurd hm hy
   |some z=>rw[hm] at this;exact this.elim
 refine Y6 hc0 hm0 I2.kIn he rfl rfl rfl hn hw (by simp) xc.sa T0 xc.tk xc.hd λh' h1 h3=>⟨σ,_,?_,q2⟩
 obtain⟨od',_,_,hod',_⟩:=h1.ns
 refine KU I2 ed h3 ⟨_,hod'⟩ ⟨_,h1,λf=>?_⟩
 by_cases hf:f=fd
 ·subst hf
  have hb:(f==f1)=false:=by simpa using Ne.symm hne
  rw[if_pos rfl]
  simp only[List.lookup,hb,beq_self_eq_true]
  exact ry
 ·rw[if_neg hf]
  have hb:(f==fd)=false:=by simpa using hf
  have:=hr f
  by_cases h5:f=f1
  ·subst h5
   simp only[List.lookup,beq_self_eq_true] at this ⊢
   exact this
  ·have hb1:(f==f1)=false:=by simpa using h5
   simp only[List.lookup,hb,hb1] at this ⊢
   exact this
end
section
variable {X:Cx}{C HE fI:Addr}{fd f1 f2 x:Str}{pos p cpos:Pos}{a b:Expr}{t:TA}{k:Nat}{f0:FuncData}{ps:List Str}
theorem VB {pins:List (Addr×Obj)}{σ:St}{H:Hp}{s:Shared}{u1 u2:Value}{v1 v2:V}{Q:Value->Shared->Prop}(xc:XC X.K C HE fI f1)(F:FnOk X.prog X.w X.K X.mg X.base CX0 k fI f0 ps (xiSp2 C f1 f2))(hr:Room (k+1) X.A)(hb:Binds X.K f0 ps [])
  (I:Inv X pins σ H s) (r1:RelV v1 u1) (r2:RelV v2 u2)
  (h:∀e t dx s',Inv X pins σ (upd (upd H e (ExO e C t (some dx))) dx (.xd [(f1,v1),(f2,v2)])) s'->H e=none->H dx=none->dx≠e->s.heap.objs.size<=e->Q (.ref e) s') :
  wpAny (model X.prog X.w) X.A (call (.ref C) [u1,u2]) Q X.xe s:=by
 obtain⟨nm,qq,N,bs,bm,hdct,sn,sub,ab,col,dd,k0,k1,k2,k3,k5,mN,hC,hN,hi,T⟩:=xc.at I.kIn
 obtain⟨oI,hfI,hfc⟩:=xc.fn
 obtain⟨hh,g,d,tk,os⟩:=s
 refine Zk PySem.F.excBase_ValueError T hC hN hi (I.kIn _ _ hfI) hfc (λh' e hl hm=>?_) (by rw[List.length_cons,List.length_cons,List.length_nil,sizeLine_eq];omega)
 obtain⟨t,he,htn,ht⟩:=hm.there
 have I2:Inv X pins σ (upd H e (ExO e C t none)) ⟨h',g,d,tk,os⟩:=I.laid (a:=e) (o:=ExO e C t none) (h':=h') (t':=tk) (λb o q=>hm.keeps b o q) hl (xQ he)
 have hne:H e=none:=I.hok.fresh hl
 have rr:Vals [V.ref e,v1,v2] [Value.ref e,u1,u2]:=.cons rfl (.cons r1 (.cons r2 .nil))
 have hsp:xiSp2 C f1 f2 [V.ref e,v1,v2] (upd H e (ExO e C t none)) (λv' H2=>v'=.non/\∃t' dx,H dx=none/\dx≠e/\H2=upd (upd (upd H e (ExO e C t none)) e (ExO e C t' (some dx))) dx (.xd [(f1,v1),(f2,v2)])) E0 :=
  ⟨e,v1,v2,t,rfl,zm,λt' dx hdx hde=>⟨rfl,t',dx,by rw[zf hde] at hdx;exact hdx,hde,rfl⟩⟩
 have hl2:([Value.ref e,u1,u2]++([]:List Value)).length=ps.length:=by
  have:=F.len _ _ _ _ hsp
  simpa using this
 refine wpAny_call (codeAny_mono (F.run _ X.stack _ _ ⟨[Value.ref e,u1,u2],[]⟩ [Value.ref e,u1,u2] _ _ E0 (hr.make C [u1,u2] []) (I2.env0.make C [u1,u2] []) (by have:=hb ⟨h',g,d,tk,os⟩ [Value.ref e,u1,u2] I2.kIn hl2;simpa using this) rr hsp) λr s' hq'=>?_)
 cases r with
 |error e=>exact False.elim hq'
 |ok fl=>
  cases fl with
  |ret u'=>
   obtain⟨v',H',I3,rv,ev,t',dx,e1,e2,e3⟩:=I2.after hq'
   subst ev e3
   refine⟨rv,h e t' dx s' ?_ hne e1 e2 hl⟩
   rw[yS] at I3
   exact I3
  |next=>exact False.elim hq'
  |brk=>exact False.elim hq'
  |cont=>exact False.elim hq'
def tMk2 (C:Addr)(f1 f2:Str)(t:TA):TE:=λσ H Q=>t σ H λvs H1=>∃v1 v2,vs=[v1,v2]/\∀e dx oe,oe.cls=.ref C->oe.dict=some dx->(∃z,oe.data=.fields z)->H1 e=none->H1 dx=none->dx≠e->Q (.ref e) (upd (upd H1 e (exAt e oe)) dx (.xd [(f1,v1),(f2,v2)]))
theorem WN (xc:XC X.K C HE fI f1)(F:FnOk X.prog X.w X.K X.mg X.base CX0 k fI f0 ps (xiSp2 C f1 f2))(hr:Room (k+1) X.A)(hb:Binds X.K f0 ps [])
  (hg:Gl X x) (hm:X.mg x=some (.ref C)) (ha:PA X [a,b] t) (hdb:(x==("__debug__" : Str))=false:=by decide +kernel)
  (he:starEach [a,b] X.env=(false,eval a X.env)::starEach [b] X.env:=by rfl) (hpl:(backTo cpos (starEach [b] X.env)).any (·.1)=false:=by rfl) :
  PE X (.Call (.Name x p) [a,b] [] cpos) (tMk2 C f1 f2 t):=by
 intro pins s σ H Q I h
 refine wpAny_Call_Name_kw (yv I hg hm ?_ hdb)
 refine PySem.W.callWith_K (h₀:=X.base) I.ok.mod.kin xc.kp (thn (ha cpos pins s σ H _ I h) λus s1 ⟨vs,H1,I1,r1,v1,v2,ev,q⟩=>⟨I1.kIn,?_⟩) he hpl
 subst ev
 cases r1 with
 | @cons _ u _ _ ru r2=>
 cases r2 with
 | @cons _ u' _ _ ru' r3=>
 cases r3
 refine VB xc F hr hb I1 ru ru' λe t' dx s' I2 he hdx hde hl=>?_
 exact⟨.ref e,_,I2,rfl,q e dx { cls:=.ref C,dict:=some dx,data:=.fields #[.ref t',.none,.none,.none,.bool false,.none] } rfl rfl ⟨_,rfl⟩ he hdx hde⟩
end
end L6
namespace Dv
open PySem PySem.Spec L2 L3 L4 L6
open PyProof.Rows hiding St
section
variable {X:Cx}{B:Bs}{C HE fI:Addr}{f1 f2 x:Str}{pos p cpos:Pos}{a b:Expr}{k:Nat}{f0:FuncData}{ps:List Str}{g g':EnvD->Option D}
def gMk2 (C:Addr)(f1 f2:Str)(g g':EnvD->Option D):EnvD->Option D:=λρ=>(g ρ).bind λd=>(dKey d).bind λk=>(g' ρ).bind λd'=>(dKey d').map λk'=>.xc (.exc C [(f1,k),(f2,k')])
@[simp]theorem Gn {ρ:EnvD}:gMk2 C f1 f2 g g' ρ=(g ρ).bind λd=>(dKey d).bind λk=>(g' ρ).bind λd'=>(dKey d').map λk'=>.xc (.exc C [(f1,k),(f2,k')]):=rfl
theorem J5 (xc:XC X.K C HE fI f1)(F:FnOk X.prog X.w X.K X.mg X.base CX0 k fI f0 ps (xiSp2 C f1 f2))(hr:Room (k+1) X.A)(hb:Binds X.K f0 ps [])
  (hg:Gl X x) (hm:X.mg x=some (.ref C)) (ha:DE X B a g) (hb':DE X B b g') (hdb:(x==("__debug__" : Str))=false:=by decide +kernel)
  (he:starEach [a,b] X.env=(false,eval a X.env)::starEach [b] X.env:=by rfl) (he2:starEach [b] X.env=(false,eval b X.env)::starEach [] X.env:=by rfl) (hpl:(backTo cpos (starEach [b] X.env)).any (·.1)=false:=by rfl) :
  DE X B (.Call (.Name x p) [a,b] [] cpos) (gMk2 C f1 f2 g g') :=
 zr (WN xc F hr hb hg hm (z5 ha (z5 hb' zQ he2) he) hdb he hpl) λσ H Q zz=>zz.el λF ρ d r hg kk=>by
  obtain⟨d0,q,hg⟩:=Option.bind_eq_some_iff.mp hg
  obtain⟨ky,q2,hg⟩:=Option.bind_eq_some_iff.mp hg
  obtain⟨d1,q3,hg⟩:=Option.bind_eq_some_iff.mp hg
  obtain⟨ky',q4,e⟩:=Option.map_eq_some_iff.mp hg
  subst e
  refine⟨F,ρ,d0,r,q,λv F1 H1 e1 p1=>⟨F1,ρ,d1,r.ext e1,q3,λv' F2 H2 e2 p2=>⟨v,v',rfl,λe dx oe h1 h2 h3 hn hnx hne=>?_⟩⟩⟩
  have hv:=j8 p1 q2
  have hv':=j8 p2 q4
  have e3:=Ext.newF (o:=exAt e oe) e2.fh hn
  have hn2:upd H2 e (exAt e oe) dx=none:=by rw[zf hne];exact hnx
  have e4:=Ext.newF (o:=.xd [(f1,v),(f2,v')]) e3.fh hn2
  refine kk (.ref e) _ _ (e1.trans (e2.trans (e3.trans e4))) ⟨e,oe,rfl,?_,h1,h3,dx,h2,?_⟩
  ·rw[zf (Ne.symm hne)];exact zm
  ·rw[zm,hv,hv'];rfl
theorem YO {keys:List (Option Expr)}{values:List Expr}{trs:List (TE×TE)}(h:PPs X pos keys values trs)(hall:keys.all (·.isSome)=true)(hl:keys.length=values.length)(h0:keys≠[])
  (h15:keys.length<=15):PE X (.Dict keys values pos) (λσ H Q=>∀p,H p=none->tPairs trs σ (upd H p (.dK [])) λps H2=>H2 p=some (.dK [])/\∃kvs:List (Key×V),ps=kvs.map (λkv=>(kV kv.1,kv.2))/\kvs.length<=15/\Q (.ref p) (upd H2 p (.dK (mergeK [] kvs)))):=by
 intro pins s σ H Q I q
 have hn:=I.hok.fresh (Nat.le_refl s.heap.objs.size)
 have I1:=I.laid (a:=s.heap.objs.size) (o:=.dK []) (h':=s.heap.push { cls:=.type "dict",data:=.dict #[] }) (t':=s.toks) (λ_ _ q=>Heap.get?_push_of_some _ q) (Nat.le_refl _) (QE s.heap I.big)
 refine wpAny_Dict_walk (knd:=zU X.prog X.w) hall hl h0 h15 (thn (h pins _ σ _ _ I1 (q _ hn)) λws s2 ⟨ps,H2,I2,rel,e,kvs,ep,lk,q2⟩=>?_)
 subst ep
 obtain⟨rs,c,rk⟩:=kM (P:=X.prog) (w:=X.w) rel
 obtain⟨z,hd,vs0,r0,dd⟩:=QV I2.hok e
 cases r0
 refine⟨rs,c,dd,λh' dd' hs=>?_⟩
 have hz:(mergeK [] kvs).length<=sizeLine:=by
  have h1:=um kvs []
  rw[List.length_nil] at h1
  rw[sizeLine_eq];omega
 obtain⟨ob,ho,_⟩:=Vm (P:=X.prog) (w:=X.w) hz hd (rk.merge .nil) dd'
 exact⟨.ref s.heap.objs.size,_,Va I2 (by rw[e];exact True.intro) hs ⟨ob,ho⟩ (show ObjOk X.prog X.w (upd H2 s.heap.objs.size (.dK (mergeK [] kvs))) h' s.heap.objs.size (.dK (mergeK [] kvs)) from⟨hz,hd,_,rk.merge .nil,dd'⟩),rfl,q2⟩
theorem Vu {k:Str}{v:Int}{j1 j2}{p1 p2:Pos}:DE X B (.Dict [some (.Constant (.str k) j1 p1)] [.Constant (.int v) j2 p2] pos) (gc (.xc (.dic k v))) :=
 zr (YO (Qj Z3 uT YC) rfl rfl (by simp) (by simp)) λσ H Q zz=>zz.el λF ρ d r hg kk=>by
  cases hg
  intro p hp
  refine⟨zm,[(.inr k,.int v)],rfl,by simp,?_⟩
  rw[yS]
  exact kk _ _ _ (Ext.newF r.fh hp) ⟨p,rfl,zm⟩
end
end Dv
namespace L6
open PySem PySem.Spec L2 L3 L4
open PyProof.Rows hiding St
open Dv (exAt)
section
variable {X:Cx}{pins:List (Addr×Obj)}{σ:St}{H:Hp}{s:Shared}{ea:Addr}{oe:Obj}
theorem Jg (I:Inv X pins σ H s)(o:Own X pins H ea)(he:s.heap.get? ea=some oe):Inv X pins σ (upd H ea (exAt ea oe)) s:=by
 obtain⟨o1,o2,o3,o4,o5,o6⟩:=o
 have ke:∀ {b:Addr} {u:HO},H b=some u->upd H ea (exAt ea oe) b=some u:=fun {b u} q=>by
  have:b≠ea:=λz=>by rw[z,o5] at q;cases q
  rw[zf this];exact q
 have u:=I.base
 refine⟨I.ok,I.os,I.bare,⟨u.keep,u.slot,λb o q n hx=>?_,u.there,λb xs q=>ke (u.tups b xs q),λb o xs q=>ke (u.frzs b o xs q),λb ps q=>?_⟩,I.loc,I.cell,?_,λx c q=>?_,λp hp=>?_,λa o q=>?_,I.len⟩
 ·rw[zf (Nat.ne_of_lt (Nat.lt_of_lt_of_le (Heap.lt_size q) o1))];exact u.free b o q n hx
 ·obtain⟨m,z⟩:=u.tbls b ps q
  exact⟨m,ke z⟩
 ·rw[zf (Ne.symm o2)];exact I.free
 ·rw[zf (o3 x c q)];exact I.freeC x c q
 ·obtain⟨a1,a2,a3⟩:=I.pin p hp
  exact⟨a1,by rw[zf (o4 p hp)];exact a2,a3⟩
 ·by_cases ha:a=ea
  ·subst ha
   rw[zm] at q
   cases q
   exact⟨he,⟨_,he⟩,λ_ _ p k=>k _ p⟩
  ·rw[zf ha] at q
   exact (I.hok a o q).stay (λb u _ z=>z) (λb z=>ke z) λb xs z=>ke z
end
section
variable {X:Cx}{pins:List (Addr×Obj)}{MC:Addr}{ie i:Nat}{xM n fx:Str}{pM hpos pos pF pN apos:Pos}{body:List Stmt}{t2:(St->XK)->TS}
def kWish (K:PySem.W.Frag)(MC:Addr)(ie i:Nat)(D:Ends):St->XK:=λσ' C' dd H'=>∃C,C'=.ref C/\XM K C MC/\∀ea oe,H' ea=none->oe.cls=.ref C->oe.dict=dd->(∃z,oe.data=.fields z)->D.nx (((σ'.set ie (some (.ref ea))).set i (some (.ref ea))).set ie none) (upd H' ea (exAt ea oe))
theorem KF (hN:X.N.Nodup)(hg:Gl X xM)(hm:X.mg xM=some (.ref MC))(hdb:(xM==("__debug__" : Str))=false) (hi:X.N[ie]?=some n) (hl:X.env.scope.names.lookup n=some .local)
  (hi2:X.N[i]?=some fx) (hiL:Loc X.env.scope fx) (hif:X.fn fx=true∨X.env.scope.names.lookup fx=some .local) (d3:(n==("__debug__" : Str))=false) (d4:(n==("__classdict__" : Str))=false)
  (hsw:swapsWith (.Name n pN) (some (.Name fx pF)) apos.line X.env=pure false) {σ':St} {H':Hp} {s:Shared} {ea T:Addr} {C' a0:Value} {dd:Option Addr} {D:Ends} (I:Inv X pins σ' H' s) (t5:Trc s.heap ea C' dd a0 (some T)) (o1:Own X pins H' ea) (o5:Own X pins H' T)
  (q:kWish X.K MC ie i D σ' C' dd H'):wpAny (model X.prog X.w) X.A (handleBy (.ref ea) X.env [.ExceptHandler (some (.Name xM pM)) (some n) [.Assign [.Name fx pF] (.Name n pN) apos] hpos]) (SP X pins D) X.xe s:=by
 obtain⟨C,rfl,xm,q⟩:=q
 have h3:H' ea=none:=o1.2.2.2.2.1
 have I':Inv (cxE X ea []) pins σ' H' s:=Z5 I λp hp=>nomatch hp
 obtain⟨oe5,vs5,he5,hc5,hd5,hf5,_⟩:=id t5
 refine wpAny_handleBy_cons (codeAny_handlers_test (yv (X:=cxE X ea []) I' hg hm ?_ hdb)) (by intro z;cases z)
 refine WQ xm I.kIn he5 hc5 ?_
 refine codeAny_handlers_suite_as ?_
 refine Wn t5 λh6 t6 k6=>?_
 have I6:=qT I (k6.wide (S':=frs X.stack) λb z=>nomatch z) o1 λt z=>by cases z;exact o5
 refine qy (X:=X) (v:=.ref ea) I6 hN hi (.inl hl) rfl (λs7 I7 sb=>?_) (.inr hl)
 obtain⟨oe,vs,he,hc,hd,hf,_⟩:=id t6
 have he7:s7.heap.get? ea=some oe:=by
  obtain⟨a,sb1,sb2⟩:=sb
  refine (sb1.2 ea ?_).trans he
  rintro rfl
  rcases sb2 with z | z
  ·exact o1.2.1 z
  ·exact o1.2.2.1 n ea z rfl
 have I7':Inv (cxE X ea [(ea,oe)]) pins (σ'.set ie (some (.ref ea))) H' s7:=Z5 I7 λp hp=>by
  cases hp with
  |head=>exact⟨he7,h3,o1.2.1,o1.2.2.2.2.2,λv z=>by rw[hf] at z;cases z⟩
  |tail _ z=>cases z
 have len:ie < σ'.length:=by rw[I.len];exact (List.getElem?_eq_some_iff.mp hi).1
 have st:=y7 (qA (X:=cxE X ea [(ea,oe)]) hN hi2 hiL (show PE (cxE X ea [(ea,oe)]) (.Name n pN) (tVar ie) from Za (X:=cxE X ea [(ea,oe)]) hi (.inl hl) d3 d4) hsw hif)
 refine wpAny_mono (st pins s7 _ H' { nx:=λσ2 H2=>σ2=(σ'.set ie (some (.ref ea))).set i (some (.ref ea))/\H2=H',rt:=λ_ _=>False } I7' ⟨_,List.getElem?_set_self len,rfl,rfl⟩) (λf s8 z=>?_) λ_ _ z=>False.elim z
 cases f with
 |next=>
  obtain⟨σ8,H8,I8,rfl,rfl⟩:=z
  refine VP (X:=cxE X ea [(ea,oe)]) I8 hN hi hl λs9 I9=>?_
  have e9:=(I9.pin (ea,oe) (List.mem_append_left _ (List.mem_append_left _ (.head _)))).1
  exact⟨_,_,Jg (QC I.ok I9) o1 e9,q ea oe h3 hc hd ⟨vs,hf⟩⟩
 |ret v=>obtain⟨_,_,_,_,_,z⟩:=z;exact z.elim
 |brk=>obtain⟨_,_,_,z⟩:=z;exact z.elim
 |cont=>obtain⟨_,_,_,z⟩:=z;exact z.elim
theorem JC (h2:∀pn (E:St->XK),PSs (cxT X pn (WX X pn E)) body (t2 E))(hN:X.N.Nodup)(hstk:X.stack=X.env::X.outer/\X.env.frame=some X.env.locals)
  (hg:Gl X xM) (hm:X.mg xM=some (.ref MC)) (hdb:(xM==("__debug__" : Str))=false) (hi:X.N[ie]?=some n) (hl:X.env.scope.names.lookup n=some .local)
  (hi2:X.N[i]?=some fx) (hiL:Loc X.env.scope fx) (hif:X.fn fx=true∨X.env.scope.names.lookup fx=some .local) (d3:(n==("__debug__" : Str))=false) (d4:(n==("__classdict__" : Str))=false)
  (hsw:swapsWith (.Name n pN) (some (.Name fx pF)) apos.line X.env=pure false) :
  PS X (.Try body [.ExceptHandler (some (.Name xM pM)) (some n) [.Assign [.Name fx pF] (.Name n pN) apos] hpos] [] [] pos) (λD σ H=>t2 (kWish X.K MC ie i D) { nx:=λ_ _=>False,rt:=λ_ _=>False } σ H):=by
 intro pins s σ H D I h
 refine wpAny_Try_except (wpAny_mono (h2 pins _ [] s σ H _ (ZK I) h) (λf s1 q=>?_) λex s' hx=>?_)
 ·cases f with
  |next=>obtain⟨_,_,_,z⟩:=q;exact z.elim
  |ret v=>obtain⟨_,_,_,_,_,z⟩:=q;exact z.elim
  |brk=>obtain⟨_,_,_,z⟩:=q;exact z.elim
  |cont=>obtain⟨_,_,_,z⟩:=q;exact z.elim
 obtain⟨σ',ea,C',dd,a0,T,H',rfl,I2,ht,o1,o2,q⟩:=hx
 have hfr:X.A.frames=some (X.env::X.outer):=by rw[I.ok.frames,hstk.1]
 have hff:s'.heap.FunFrames X.base (X.env::X.outer):=by have:=I2.stack;rw[hstk.1] at this;exact this
 refine noteF hfr hff hstk.2 ht λh4 T5 t4 l4 k4=>?_
 rw[<-hstk.1] at k4
 have I4:=qT I2 k4 o1 o2
 have o5:Own X pins H' T5:=by
  rcases l4 with l | l
  ·exact vI I2 l (I2.hok.fresh l)
  ·exact o2 _ l
 refine kQ (s:={ s' with heap:=h4 }) t4 λh5 _ t5 k5=>?_
 have t5:=t5 rfl
 have I5:=qT (s:={ s' with heap:=h4 }) I4 (k5.wide (S':=frs X.stack) λb z=>nomatch z) o1 λt z=>by cases z;exact o5
 exact KF hN hg hm hdb hi hl hi2 hiL hif d3 d4 hsw I5 t5 o1 o5 q
end
end L6
namespace Dv
open PySem PySem.Spec L2 L3 L4 L6
open PyProof.Rows hiding St
section
variable {X:Cx}{B:Bs}{ca:Str->Addr}{fd:Str}{MC:Addr}{ie i:Nat}{xM n fx:Str}{pM hpos pos pF pN apos:Pos}{body:List Stmt}{gx:EnvD->Option (EnvD×Xv)}{nms:List Str}
def sTryK (ca:Str->Addr)(nms:List Str)(ie i:Nat)(gx:EnvD->Option (EnvD×Xv)):SD:=λρ=>(gx ρ).bind λq=>match q.2 with
 | (nm,none)=>if nm∈nms/\okV (some ie) q.1=true/\ie≠i then some (.next (q.1.set i (some (.val (.xc (.exc (ca nm) [])))))) else none
 |_=>none
theorem Jn (h2:∀pn (E:St->XK),DVs (cxT X pn (WX X pn E)) B ca fd E body gx)(hN:X.N.Nodup)(hstk:X.stack=X.env::X.outer/\X.env.frame=some X.env.locals)
  (hg:Gl X xM) (hm:X.mg xM=some (.ref MC)) (hi:X.N[ie]?=some n) (hl:X.env.scope.names.lookup n=some .local)
  (hi2:X.N[i]?=some fx) (hiL:Loc X.env.scope fx) (hif:X.fn fx=true∨X.env.scope.names.lookup fx=some .local) (hx:∀nm∈nms,XM X.K (ca nm) MC)
  (hsw:swapsWith (.Name n pN) (some (.Name fx pF)) apos.line X.env=pure false:=by rfl) (hdb:(xM==("__debug__" : Str))=false:=by decide +kernel) (d3:(n==("__debug__" : Str))=false:=by decide +kernel) (d4:(n==("__classdict__" : Str))=false:=by decide +kernel) :
  DS X B (.Try body [.ExceptHandler (some (.Name xM pM)) (some n) [.Assign [.Name fx pF] (.Name n pN) apos] hpos] [] [] pos) (sTryK ca nms ie i gx):=by
 refine zW (JC (t2:=λE _ σ H=>lVs X.kw B ca fd E gx σ H) h2 hN hstk hg hm hdb hi hl hi2 hiL hif d3 d4 hsw) λD σ H h=>?_
 refine Lq.el h λF ρ fl r hgg k=>?_
 obtain⟨q,q2,hgg⟩:=Option.bind_eq_some_iff.mp hgg
 obtain⟨ρ1,nm,pl⟩:=q
 cases pl with
 |some d=>cases hgg
 |none=>
  replace hgg:(if nm∈nms/\okV (some ie) ρ1=true/\ie≠i then some (Fl.next (ρ1.set i (some (.val (.xc (.exc (ca nm) [])))))) else none)=some fl:=hgg
  split at hgg
  ·rename_i hok
   cases hgg
   obtain⟨hn,hok,hne⟩:=hok
   refine⟨F,ρ,_,r,q2,λdd σ' F' H' r' s' pd=>⟨ca nm,rfl,hx nm hn,λea oe hea hc hd hf=>?_⟩⟩
   have e4:ρ1[ie]?=some none:=Kw hok
   have nx:∀x,ρ1[ie]?≠some (some x):=λx z=>by rw[e4] at z;cases z
   have e5:Ext F' H' (upd F' ea (exAt ea oe)) (upd H' ea (exAt ea oe)):=Ext.newF r'.fh hea
   have pd:dd=none:=pd
   have r1:Rep X.kw B F' (σ'.set ie (some (.ref ea))) H' ρ1:=YK r' nx
   have r2:=(r1.ext e5).setv (i:=i) (v:=.ref ea) (d:=.xc (.exc (ca nm) [])) ⟨ea,oe,rfl,zm,hc,hf,hd.trans pd⟩
   refine k _ _ _ (K6 r2 λx z=>?_) (s'.trans e5.ff)
   rw[List.getElem?_set_ne (Ne.symm hne),e4] at z
   cases z
  ·cases hgg
end
structure RyK (P:Program)(w:World)(K:PySem.W.Frag)(mg:Str->Option Value)(base:Heap)(ca:Str->Addr)(fd:Str)(C:Addr)(x:Str)(k n:Nat)(m:List En->Option Xv):Prop where
 ex:∃f f0 ps,FnOk P w K mg base (CX1 P w) k f f0 ps (ySp ⟨K,w⟩ ca fd n m)/\Mk K C f/\mg x=some (.ref C)/\Binds K f0 ps []
section
variable {X:Cx}{B:Bs}{ca:Str->Addr}{fd x:Str}{E:St->XK}{pos p:Pos}{e:Expr}{es:List Expr}{k n:Nat}{gxs:EnvD->Option (List En)}{m:List En->Option Xv}{C:Addr}
def yMake (m:List En->Option Xv)(gxs:EnvD->Option (List En)):EnvD->Option Xv:=λρ=>(gxs ρ).bind λxs=>m (.exn 0::xs)
@[simp]theorem UB {ρ:EnvD}:yMake m gxs ρ=(gxs ρ).bind λxs=>m (.exn 0::xs):=rfl
theorem u6 {K:KW}{F H H':Hp}(h:Same H H'):∀ {xs:List En} {vs:List V},Paired (λx v=>ArgE K F H x v) xs vs->Paired (λx v=>ArgE K F H' x v) xs vs
 |_,_,.nil=>.nil
 |_,_,.cons a b=>.cons (ArgE.mono (Same.refl _) h a) (u6 h b)
theorem J3 (hp:PassS X E)(h:RyK X.prog X.w X.kw X.mg X.base ca fd C x k n m)(hn:∀xs o,m xs=some o->xs.length=n)(ind:∀a xs,m (.exn a::xs)=m (.exn 0::xs))(hr:Room (k+1) X.A)(hg:Gl X x)(ha:DNs X.nox B (e::es) gxs)
  (hdb:(x==("__debug__" : Str))=false:=by decide +kernel) (he:starEach (e::es) X.env=(false,eval e X.env)::starEach es X.env:=by rfl) (hpl:(backTo pos (starEach es X.env)).any (·.1)=false:=by rfl) :
  DV X B ca fd E (.Call (.Name x p) (e::es) [] pos) (yMake m gxs):=by
 obtain⟨f,f0,ps,F,M,hm,hb⟩:=h.ex
 intro pins s σ H Q I h
 obtain⟨F0,ρ,q0,r,hgq,kk⟩:=h
 obtain⟨xs,q1,hgq⟩:=Option.bind_eq_some_iff.mp hgq
 refine wpAny_Call_Name_kw (yv I hg hm ?_ hdb)
 refine PySem.W.callWith_K (h₀:=X.base) I.ok.mod.kin M.kp (wpAny_mono (ha pos pins s σ H (λvs H1=>∀y dx,H1 y=none->H1 dx=none->dx≠y->ySp X.kw ca fd n m (.ref y::vs) (upd (upd H1 dx (.own y)) y (.ins C dx [])) (λ_ _=>False) (E σ)) (I.wish _) ⟨F0,ρ,xs,r,q1,λvs F1 H1 e1 p1 y dx ny ndx nyd=>?_⟩) (λus s1 ⟨vs,H1,I1,rv,q⟩=>⟨I1.kIn,?_⟩) λ_ _ z=>False.elim z) he hpl
 ·have n1:upd H1 dx (HO.own y) y=none:=by rw[zf (Ne.symm nyd)];exact ny
  have s1:Same H1 (upd (upd H1 dx (.own y)) y (.ins C dx [])):=(ya ndx).trans (ya n1)
  have x1:Ext F1 H1 F1 (upd (upd H1 dx (.own y)) y (.ins C dx [])):=⟨Same.refl _,s1,e1.fh.trans s1,λ_ h=>.inl h⟩
  exact⟨F1,.exn y::xs,q0,x1.fh,hn _ _ ((ind y xs).trans hgq),.cons rfl (u6 s1 p1),(ind y xs).trans hgq,λdd F' H' e2 pd=>kk dd F' H' (r.ext (e1.trans (x1.trans e2))) (e1.trans (x1.trans e2)).ff pd⟩
 have I1:=I1.unwish
 have hq:=q (s1.heap.objs.size+1) s1.heap.objs.size (I1.hok.fresh (Nat.le_succ _)) (I1.hok.fresh (Nat.le_refl _)) (Nat.ne_of_lt (Nat.lt_succ_self _))
 have I2:=Inv.made (C:=C) I1
 have r2:Vals (V.ref (s1.heap.objs.size+1)::vs) (Value.ref (s1.heap.objs.size+1)::us):=.cons rfl rv
 have hl:(Value.ref (s1.heap.objs.size+1)::us++([]:List Value)).length=ps.length:=by
  have e:=r2.length
  rw[F.len _ _ _ _ hq] at e
  rw[List.append_nil];exact e.symm
 refine wpAny_call (uQ (f:=f) I1.kIn M.makes M.init (beq_iff_eq.mp M.fn) (codeAny_mono (F.run _ X.stack _ _ ⟨Value.ref (s1.heap.objs.size+1)::us,[]⟩ (Value.ref (s1.heap.objs.size+1)::us) _ _ (E σ) (hr.make C us [])
  (I2.env0.make C us []) (by have:=hb _ (Value.ref (s1.heap.objs.size+1)::us) I2.kIn hl;rw[List.append_nil] at this;exact this) r2 hq) λr s' hq'=>?_))
 cases r with
 |error e=>exact hp pins σ _ _ e s' I2 hq'
 |ok fl=>
  cases fl with
  |ret u=>obtain⟨_,_,_,_,_,_,_,z⟩:=hq';exact z.elim
  |next=>exact False.elim hq'
  |brk=>exact False.elim hq'
  |cont=>exact False.elim hq'
end
def ExI2 (P:Program)(w:World)(K:PySem.W.Frag)(mg:Str->Option Value)(base:Heap)(C HE:Addr)(f1 f2:Str):Prop:=∃fI,XC K C HE fI f1/\XC K C HE fI f2/\∃f0 ps,FnOk P w K mg base CX0 1 fI f0 ps (xiSp2 C f1 f2)/\Binds K f0 ps []
theorem VG {C e t:Addr}{f1 f2:Str}{v1 v2:V}{H:Hp}{Q:VK}(q:∀t' dx,H dx=none->dx≠e->Q .non (upd (upd H e (ExO e C t' (some dx))) dx (.xd [(f1,v1),(f2,v2)])))(t' dx:Addr)(h1:upd H e (ExO e C t' none) dx=none)(h2:dx≠e) :
  Q .non (upd (upd (upd (upd H e (ExO e C t' none)) e (ExO e C t' (some dx))) dx (.xd [(f1,v1)])) dx (.xd [(f1,v1),(f2,v2)])):=by
 rw[yS,yS]
 rw[zf h2] at h1
 exact q t' dx h1 h2
def fTupL:List D->Option D
 | [.lst ds]=>some (.tup ds)
 |_=>none
@[simp]theorem UY {ds:List D}:fTupL [.lst ds]=some (.tup ds):=rfl
theorem WI {K:KW}:CallOk K (λxs H Q=>∃p ys,xs=[.ref p]/\((SqL K H p ys/\∀l,H l=none->Q (.ref l) (upd H l (.tup ys)))∨(SqT K H p ys/\Q (.ref p) H))) (pE K) fTupL:=by
 intro F H vs ds d Q s hp e k
 unfold fTupL at e
 split at e
 ·cases e
  obtain⟨v,rfl,r⟩:=pair1 hp
  obtain⟨a,ws,rfl,h1,h2⟩:=r.lst s
  exact⟨a,ws,rfl,.inl ⟨.of h1,λp hp=>k _ (upd F p (.tup ws)) _ (Ext.newF s hp) ⟨p,ws,rfl,zm,h2.mono (ya (s.free hp))⟩⟩⟩
 ·cases e
theorem KL {X:Cx}{B:Bs}{a:Expr}{p pos:Pos}{gs:EnvD->Option (List D)}(hg:Gl X "tuple") (hm:X.mg "tuple" = none) (ha:DRs X B [a] gs) (he:starEach [a] X.env=(false,eval a X.env)::starEach [] X.env:=by rfl) (hpl:(backTo pos (starEach [] X.env)).any (·.1)=false:=by rfl) :
  DE X B (.Call (.Name "tuple" p) [a] [] pos) (gB fTupL gs):=V9 Qv WI hg hm (by decide +kernel) ha (by decide) (by decide) he hpl
theorem V1 {N:List Str}{n:Nat}{g:EnvD->Option Xv}(h:∀o o' l,g (o::l)=g (o'::l))(a:Addr)(xs:List En):mirY N n (yE g) (.exn a::xs)=mirY N n (yE g) (.exn 0::xs):=by
 unfold mirY
 have e:∀o:En,stE N ((o::xs).map some)=some o::(xs.map some++List.replicate (N.length - ((o::xs).map some).length) none):=λo=>rfl
 rw[e,e]
 unfold yE
 rw[h (some (.exn a)) (some (.exn 0))]
 simp only[Option.map_map]
 rfl
end Dv
namespace QM
variable {α:Type} [DecidableEq α]
abbrev Tk (α:Type):=α×Int
def srv (m:Nat)(q:List (Tk α)):List α:=(q.take m).map (·.1)
def beh (m:Nat)(q:List (Tk α)):List (Tk α):=((q.take m).filter λt=>decide (1 < t.2)).map (λt=>(t.1,t.2 - 1))++q.drop m
def walk (f:Int->Int):Int->List (Tk α)->List (Int×List α)->Option (List (Tk α))
 |_,q,[]=>some q
 |due,q,r::rs=>if q=[]∨r.1≠due∨r.2≠srv (f due).toNat q then none else walk f (due+1) (beh (f due).toNat q) rs
end QM
namespace Dv
open PySem PySem.Spec L2 L3 L4 QM
open PyProof.Rows hiding St
abbrev Ok (x:Str):Prop:=PyData.strOk x=true
theorem ji {α:Type}{f:α->D}:∀(l:List α),toPs (l.map f)=l.map λx=>toP (f x)
 | []=>rfl
 |x::l=>by simp[toPs,ji l]
theorem Z2 {α:Type} [DecidableEq α]{f:α->PyData}(hf:∀x y,PyData.eqv (f x) (f y)=decide (x=y)):∀(xs ys:List α),PyData.eqvAll (xs.map f) (ys.map f)=decide (xs=ys)
 | [],[]=>rfl
 | [],_::_=>rfl
 |_::_,[]=>rfl
 |x::xs,y::ys=>by
  show (PyData.eqv (f x) (f y)&&PyData.eqvAll (xs.map f) (ys.map f))=_
  rw[hf,Z2 hf xs ys]
  by_cases h1:x=y<;>by_cases h2:xs=ys<;>simp[h1,h2]
theorem KP (x y:Str):PyData.eqv (.str x) (.str y)=decide (x=y):=by
 show (x==y)=_
 by_cases h:x=y
 ·subst h;simp
 ·simp[h]
theorem vE (x y:Int):PyData.eqv (.int x) (.int y)=decide (x=y):=by
 show (x==y)=_
 by_cases h:x=y
 ·subst h;simp
 ·simp[h]
theorem ZS {α:Type}{f:α->PyData}:∀(xs:List α),(∀x∈xs,PyData.canLay0 (f x)=true)->PyData.canLayAll0 (xs.map f)=true
 | [],_=>rfl
 |x::xs,h=>by
  show (PyData.canLay0 (f x)&&PyData.canLayAll0 (xs.map f))=true
  rw[h x (by simp),ZS xs λy hy=>h y (by simp[hy])];rfl
theorem ZW {α:Type}{f:α->PyData}{n:Nat}:∀(xs:List α),(∀x∈xs,PyData.depth (f x)<=n)->PyData.depthAll (xs.map f)<=n
 | [],_=>Nat.zero_le _
 |x::xs,h=>by
  have h1:=h x (by simp)
  have h2:=ZW xs λy hy=>h y (by simp[hy])
  show max (PyData.depth (f x)) (PyData.depthAll (xs.map f))<=n
  omega
def Lay (n:Nat)(d:D):Prop:=(toP d).canLay0=true/\(toP d).depth<=n
theorem Lay.ok {n:Nat}{d:D}(h:Lay n d)(hn:n<=64):eqOk d=true:=by
 unfold eqOk SeqAt.shaped
 rw[h.1]
 simpa using Nat.le_trans h.2 hn
theorem xS {i:Int}:Lay 0 (.int i):=⟨rfl,Nat.le_refl _⟩
theorem km {x:Str}(h:Ok x):Lay 0 (.str x):=⟨h,Nat.le_refl _⟩
theorem Q0 {α:Type}{f:α->D}{n:Nat}{xs:List α}(h:∀x∈xs,Lay n (f x)):Lay (n+1) (.lst (xs.map f)):=by
 refine⟨?_,?_⟩
 ·show PyData.canLayAll0 (toPs (xs.map f))=true
  rw[ji];exact ZS xs λx hx=>(h x hx).1
 ·show PyData.depthAll (toPs (xs.map f))+1<=n+1
  rw[ji]
  exact Nat.succ_le_succ (ZW xs λx hx=>(h x hx).2)
theorem v5 {neg:Bool}{x y:D}{n m:Nat}{b:Bool}(hx:Lay n x)(hy:Lay m y)(hn:n<=64)(hm:m<=64)(e:PyData.eqv (toP x) (toP y)=b):fEq neg x y=some (.bl (if neg then !b else b)):=by
 unfold fEq eqD
 rw[hx.ok hn,hy.ok hm,e];rfl
end Dv
namespace QM
variable {α:Type} [DecidableEq α]
inductive Run (f:Int->Int):Int->List (Tk α)->List (Int×List α)->Prop
 |nil (x:Int):Run f x [] []
 |cons {x:Int} {q:List (Tk α)} {rs:List (Int×List α)}:q≠[]->Run f (x+1) (beh (f x).toNat q) rs->Run f x q ((x,srv (f x).toNat q)::rs)
variable {f:Int->Int}{x:Int}{q q':List (Tk α)}{rows rows' tl:List (Int×List α)}{v:α}
def nms (q:List (Tk α)):List α:=q.map (·.1)
end QM
namespace Dv
open PySem PySem.Spec L2 L3 L4 QM
open PyProof.Rows hiding St
def mk (l:List Nat):Str:=⟨l.toArray⟩
theorem Y1 (a b:List Nat):mk a++mk b=mk (a++b):=by
 show (⟨a.toArray++b.toArray⟩:Str)=⟨(a++b).toArray⟩
 simp
theorem j0 (l:List Nat):(mk l).length=l.length:=by simp[mk,Str.length]
theorem j7 {l:List Nat}{a:Int}(h:l.length<=TOP)(h1:0<=a)(h2:a < l.length):fItem (.str (mk l)) (.int a)=some (.str (mk [l.getD a.toNat 0])):=by
 rw[Zc,if_pos (by rw[j0];exact h)]
 obtain⟨v,e1,e2⟩:=uZ (xs:=l) h1 h2
 have e3:l.getD a.toNat 0=v:=by rw[List.getD_eq_getElem?_getD,e2];rfl
 rw[e3,show (mk l).cps.toList=l by simp[mk],e1]
 rfl
theorem Zv:∀(rest:List (List Nat)) (acc:List Nat),((rest.map mk).foldl (λacc p=>acc++("" : Str).cps++p.cps) acc.toArray)=(acc++rest.flatten).toArray
 | [],acc=>by simp
 |l::rest,acc=>by
  have e:("" : Str).cps=#[]:=by decide +kernel
  rw[List.map_cons,List.foldl_cons,e]
  have e2:acc.toArray++#[]++(mk l).cps=(acc++l).toArray:=by simp[mk]
  rw[e2]
  have ih:=Zv rest (acc++l)
  rw[e] at ih
  rw[ih];simp
theorem W9:∀(ls:List (List Nat)),Txt.join "" (ls.map mk)=mk ls.flatten
 | []=>by
  show (Builtin.Str.glued "" []:Str)=mk []
  decide +kernel
 |l::ls=>by
  show (⟨((ls.map mk)).foldl (λacc p=>acc++("" : Str).cps++p.cps) (mk l).cps⟩:Str)=mk (l::ls).flatten
  have:=Zv ls l
  rw[show (mk l).cps=l.toArray from rfl,this]
  rfl
theorem jv (l:List Nat):chD (mk l)=l.map λc=>D.str (mk [c]):=by simp[chD,mk]
end Dv
namespace HM
abbrev Row:=Int×Int
def Pos (l:List Row):Prop:=∀r∈l,0 < r.1/\0<=r.2
def atR (rest:Int):List Row->Int->Int
 | [],_=>rest
 |r::rs,x=>if x < r.1 then r.2 else atR rest rs (x - r.1)
def nextC (rest:Int):List Row->Int
 | []=>rest
 |r::_=>r.2
def kstep (acc:List Row)(r:Row):List Row:=match acc.getLast? with
 |some q=>if q.2=r.2 then acc.dropLast++[(q.1+r.1,r.2)] else acc++[r]
 |none=>acc++[r]
def kend (rest:Int)(k:List Row):List Row:=match k.getLast? with
 |some q=>if q.2=rest then k.dropLast else k
 |none=>k
def krows (rest:Int)(rs:List Row):List Row:=kend rest (rs.foldl kstep [])
def Norm (rest:Int):List Row->Prop
 | []=>True
 |r::rs=>nextC rest rs≠r.2/\Norm rest rs
theorem Pos.cons {r:Row}{m:List Row}:Pos (r::m)↔(0 < r.1/\0<=r.2)/\Pos m:=by
 constructor
 ·intro h;exact⟨h r (by simp),λq hq=>h q (by simp[hq])⟩
 ·intro ⟨h1,h2⟩ q hq
  rcases List.mem_cons.mp hq with rfl | h
  ·exact h1
  ·exact h2 q h
def Inv (acc:List Row):Prop:=acc=[]∨∃pre a c,acc=pre++[(a,c)]/\Norm c pre
structure Same {α:Type}(rest:Int)(Φ:List Row->α):Prop where
 merge:∀pre a b c tl,Pos pre->Pos tl->0 < a->0 < b->Φ (pre++(a,c)::(b,c)::tl)=Φ (pre++(a+b,c)::tl)
 drop:∀pre a,Pos pre->0 < a->Φ (pre++[(a,rest)])=Φ pre
theorem Z1 (acc:List Row)(r:Row):(kstep acc r).length<=acc.length+1:=by
 unfold kstep
 split
 ·split
  ·simp
  ·simp
 ·simp
theorem ud:∀(rs acc:List Row),(rs.foldl kstep acc).length<=acc.length+rs.length
 | [],acc=>by simp
 |r::rs,acc=>by
  have h1:=ud rs (kstep acc r)
  have h2:=Z1 acc r
  rw[List.foldl_cons];simp only[List.length_cons];omega
theorem Vd (rest:Int)(rs:List Row):(krows rest rs).length<=rs.length:=by
 have:=ud rs []
 simp only[List.length_nil,Nat.zero_add] at this
 unfold krows kend
 split
 ·split
  ·simp;omega
  ·exact this
 ·exact this
end HM
namespace Dv
open PySem PySem.Spec L2 L3 L4 QM
open PyProof.Rows hiding St
abbrev SI:=List (Str×Int)
def kv (q:SI):List (Key×D):=q.map λt=>(.inr t.1,.int t.2)
end Dv
namespace QM
variable {α:Type} [DecidableEq α]
inductive Eas:List (Tk α)->List (Tk α)->Prop
 |nil:Eas [] []
 |skip {t:Tk α} {p q:List (Tk α)}:Eas p q->Eas p (t::q)
 |keep {n:α} {a b:Int} {p q:List (Tk α)}:b<=a->Eas p q->Eas ((n,b)::p) ((n,a)::q)
def val (q:List (Tk α))(n:α):Int:=((q.find? λt=>decide (t.1=n)).map (·.2)).getD 0
variable {f g:Int->Int}
end QM
namespace Dv
open PySem PySem.Spec L2 L3 L4 QM
open PyProof.Rows hiding St
variable {f:Int->Int}
def ra (f:Int->Int):Int->SI->Nat->List (Int×List Str)
 |_,_,0=>[]
 |x,A,k+1=>(x,srv (f x).toNat A)::ra f (x+1) (beh (f x).toNat A) k
def hb (rows:List (Int×List Str))(n:Str)(t:Int):Nat:=(rows.filter λr=>decide (r.1<=t)&&decide (n∈r.2)).length
end Dv
namespace Dv
open PySem PySem.Spec L2 L3 L4
open PyProof.Rows hiding St
section
variable {i:Nat}{g:EnvD->Option D}{gl gi:EnvD->Option (List D)}{gk:EnvD->Option (List (Key×D))}{gb:EnvD->Option Bool}{b s1 s2:SD}{ρ ρ':EnvD}{d:D}{ds:List D}{kvs:List (Key×D)}{r:Option Fl}{t:Tgt}
end
end Dv
namespace QX
open PySem PySem.StrLaws PySem.Builtin PySem.Builtin.Str
end QX
namespace QX
end QX
namespace HM
section
variable {rest f L:Int}{ks:List Row}
end
end HM
namespace My
open PySem PySem.Spec L2 L3 L4 L6 Dv
open PyProof.Rows hiding St
def top (i:Nat):Stmt:=PySem.Challenge.pw_latestturn_k03_kinds_and_refusals.main.body.getD i (.Pass ⟨0,0,0,0⟩)
abbrev wm:Stmt:=top 23
abbrev w9:Stmt:=top 24
abbrev xr:Stmt:=top 25
abbrev xV:Stmt:=top 26
abbrev y6:Stmt:=top 27
abbrev wb:Stmt:=top 28
abbrev wH:Stmt:=top 29
abbrev xy:Stmt:=yr (top 30) 0
abbrev xD:Stmt:=yr (top 30) 1
abbrev wt:Stmt:=yr (top 30) 2
abbrev wV:Stmt:=yr (top 30) 3
abbrev wq:Stmt:=yr (top 30) 4
abbrev wY:Stmt:=top 32
abbrev wj:Stmt:=top 33
abbrev wB:Stmt:=top 34
abbrev wu:Stmt:=top 35
abbrev xR:Stmt:=top 36
abbrev wX:Stmt:=top 37
abbrev yR:Stmt:=top 38
abbrev xt:Stmt:=top 39
abbrev wO:Stmt:=top 40
abbrev wx:Stmt:=top 41
abbrev w6:Stmt:=top 42
abbrev w5:Stmt:=top 43
abbrev wF:Stmt:=top 44
abbrev y3:Stmt:=top 45
def wa:List Str:=["thing"]
def xC:SD:=(sRet (gAndV (gIs "int" (gr 0)) (gNotV (gIs "bool" (gr 0)))))
def zX:List En->Option En:=mir wa (xC)
def xh:List Str:=["thing","low","high"]
def xN:SD:=(sRet (gAndV (gCall (len? 1 zX) frzO (nCons (gn 0) nNil)) (g3 fLe fLe (gr 1) (gr 0) (gr 2))))
def z6:List En->Option En:=mir xh (xN)
def xq:List Str:=["thing"]
def qS:EnvD->Option D:=(g2 (fIn false) (gr 0) (g2 fPlus (gc (.str "abcdefghijklmnopqrstuvwxyz")) (gc (.str "0123456789"))))
def xg:SD:=(sSeq (sIf (gOr (gNot (gt (gIs "str" (gr 0)))) (gNot (gb' (g3 fLe fLe (gc (.int 1)) (gB fLen (gCons' (gr 0) gNil)) (gc (.int 8)))))) (sRet (gc (.bl false))) sNext) (sRet (gAndV (g2 (fIn false) (g2 fItem (gr 0) (gc (.int 0))) (gc (.str "abcdefghijklmnopqrstuvwxyz"))) (gB fAll (gCons' (gFz (gComp ["sign"] [] (.name 0) tYes qS (gItS (gr 0)))) gNil)))))
def yf:List En->Option En:=mir xq (xg)
def xZ:List Str:=["thing"]
def xA:SD:=(sSeq (sIf (gOr (gNot (gt (gIs "tuple" (gr 0)))) (gb' (g2 (fEq true) (gB fLen (gCons' (gr 0) gNil)) (gc (.int 2))))) (sRet (gc (.bl false))) sNext) (sRet (gAndV (gCall (len? 3 z6) frzO (nCons (gVal (g2 fItem (gr 0) (gc (.int 0)))) (nCons (gVal (gc (.int 1))) (nCons (gVal (gc (.int 100))) nNil)))) (gCall (len? 3 z6) frzO (nCons (gVal (g2 fItem (gr 0) (gc (.int 1)))) (nCons (gVal (gc (.int 0))) (nCons (gVal (gc (.int 8))) nNil)))))))
def zN:List En->Option En:=mir xZ (xA)
def yw:List Str:=["rows","rest"]
def qU:EnvD->Option D:=(gCall (len? 1 zN) frzO (nCons (gn 0) nNil))
def jJ:SD:=(sSeq (sIf (gOr (gNot (gt (gIs "list" (gr 0)))) (gb' (g2 fGt (gB fLen (gCons' (gr 0) gNil)) (gc (.int 16))))) sNever sNext) (sSeq (sIf (gNot (gt (gB fAll (gCons' (gFz (gComp ["row"] [] (.name 0) tYes qU (gIt (gr 0)))) gNil)))) sNever sNext) (sIf (gNot (gt (gCall (len? 3 z6) frzO (nCons (gn 1) (nCons (gVal (gc (.int 1))) (nCons (gVal (gc (.int 8))) nNil)))))) sNever sNext)))
def vy:List En->Option En:=mir yw (jJ)
def jC:EnvD->Option D:=(gCall (len? 1 zN) frzO (nCons (gn 0) nNil))
def Yz:EnvD->Option D:=(gCall (len? 1 zN) frzO (nCons (gn 0) nNil))
def wc:EnvD->Option (EnvD×Xv):=(yAlt (yIf (gOr (gNot (gt (gIs "list" (gr 0)))) (gb' (g2 fGt (gB fLen (gCons' (gr 0) gNil)) (gc (.int 16))))) (yO "NoHours" (gc (.str "hours have a list of at most 16 rows"))) yNo) (ySeq (sIf (gOr (gNot (gt (gIs "list" (gr 0)))) (gb' (g2 fGt (gB fLen (gCons' (gr 0) gNil)) (gc (.int 16))))) sNever sNext) (yAlt (yIf (gNot (gt (gB fAll (gCons' (gFz (gComp ["row"] [] (.name 0) tYes jC (gIt (gr 0)))) gNil)))) (yO "NoHours" (gc (.str "a row has 1 to 100 turns with 0 to 8 counters each"))) yNo) (ySeq (sIf (gNot (gt (gB fAll (gCons' (gFz (gComp ["row"] [] (.name 0) tYes Yz (gIt (gr 0)))) gNil)))) sNever sNext) (yIf (gNot (gt (gCall (len? 3 z6) frzO (nCons (gn 1) (nCons (gVal (gc (.int 1))) (nCons (gVal (gc (.int 8))) nNil)))))) (yO "NoHours" (gc (.str "the rest is 1 to 8 counters"))) yNo)))))
def yA:List En->Option Xv:=mirY yw 2 wc
def jw:List Str:=["rows","rest","kept","turns","counters"]
def vv:SD:=(sIf (gAnd (gt (gr 2)) (gb' (g2 (fEq false) (g2 fItem (g2 fItem (gr 2) (gNeg (gc (.int 1)))) (gc (.int 1))) (gr 4)))) (sPut 2 (gNeg (gc (.int 1))) (gTup' (gCons' (g2 fPlus (g2 fItem (g2 fItem (gr 2) (gNeg (gc (.int 1)))) (gc (.int 0))) (gr 3)) (gCons' (gv 4) gNil)))) (sIf (gb' (g2 fGt (gr 3) (gc (.int 0)))) (sApp 2 (gTup' (gCons' (gv 3) (gCons' (gv 4) gNil)))) sNext))
def qe:SD:=(sSeq (sSetA 2 (gLst gNil)) (sSeq (sFor (.tup [3,4]) (gIt (gf 0)) vv) (sSeq (sIf (gAnd (gt (gr 2)) (gb' (g2 (fEq false) (g2 fItem (g2 fItem (gr 2) (gNeg (gc (.int 1)))) (gc (.int 1))) (gr 1)))) (sPop 2) sNext) (sRetV 2))))
def vC:List En->Option En:=mir jw (qe)
def jd:List Str:=["rows","spans","start","turns","counters"]
def jF:SD:=(sSeq (sApp 1 (gTup' (gCons' (gv 2) (gCons' (g2 fPlus (gr 2) (gr 3)) (gCons' (gv 4) gNil))))) (sSet 2 (g2 fPlus (gr 2) (gr 3))))
def qI:SD:=(sSeq (sSetA 1 (gLst gNil)) (sSeq (sSet 2 (gc (.int 0))) (sSeq (sFor (.tup [3,4]) (gIt (gf 0)) jF) (sRetV 1))))
def vA:List En->Option En:=mir jd (qI)
def wQ:List Str:=["self","rows","rest"]
def v7 (C:Str->Addr):SD:=(sSeq (sExpr (gCall (len? 2 vy) frzO (nCons (gn 1) (nCons (gn 2) nNil)))) (sSeq (sFldD 0 (C "Hours") "kept_rest" (gv 2)) (sFldD 0 (C "Hours") "spans" (gCall (len? 1 vA) frzO (nCons (gVal (gCall (len? 2 vC) frzO (nCons (gn 1) (nCons (gn 2) nNil)))) nNil)))))
def y1 (C:Str->Addr):List En->Option (List Str×List D):=mirI (C "Hours") wQ (v7 C) 0 0
def ZY:EnvD->Option (EnvD×Xv):=(yE (yCall yA (nCons (gn 1) (nCons (gn 2) nNil))))
def xx:List En->Option Xv:=mirY wQ 3 ZY
def VE:List Str:=["self"]
def Q7:EnvD->Option D:=(gTup' (gCons' (g2 fSub (gr 1) (gr 0)) (gCons' (gv 2) gNil)))
def Yg (C:Str->Addr):SD:=(sRetA (gComp ["start","stop","counters"] [] (.tup [0,1,2]) tYes Q7 (gIt (gFld (C "Hours") "spans" (gv 0)))))
def Kp (C:Str->Addr):List En->Option En:=mir VE (Yg C)
def qZ:List Str:=["self"]
def qG (C:Str->Addr):SD:=(sRet (gFld (C "Hours") "kept_rest" (gv 0)))
def yQ (C:Str->Addr):List En->Option En:=mir qZ (qG C)
def ko:List Str:=["self"]
def jT (C:Str->Addr):SD:=(sRet (gIf (gt (gFld (C "Hours") "spans" (gv 0))) (g2 fItem (g2 fItem (gFld (C "Hours") "spans" (gv 0)) (gNeg (gc (.int 1)))) (gc (.int 1))) (gc (.int 0))))
def yG (C:Str->Addr):List En->Option En:=mir ko (jT C)
def vW:List Str:=["self","turn","low","high","middle"]
def jo (C:Str->Addr):SD:=(sSeq (sSet 4 (g2 fDiv (g2 fPlus (gr 2) (gr 3)) (gc (.int 2)))) (sIf (gb' (g2 fLt (gr 1) (g2 fItem (g2 fItem (gFld (C "Hours") "spans" (gv 0)) (gr 4)) (gc (.int 1))))) (sSet 3 (gv 4)) (sSet 2 (g2 fPlus (gr 4) (gc (.int 1))))))
def qO (C:Str->Addr):SD:=(sSeq (sSet 2 (gc (.int 0))) (sSeq (sSet 3 (gB fLen (gCons' (gFld (C "Hours") "spans" (gv 0)) gNil))) (sSeq (sWhile (gb' (g2 fLt (gr 2) (gr 3))) (jo C)) (sRet (gIf (gb' (g2 fLt (gr 2) (gB fLen (gCons' (gFld (C "Hours") "spans" (gv 0)) gNil)))) (g2 fItem (g2 fItem (gFld (C "Hours") "spans" (gv 0)) (gr 2)) (gc (.int 2))) (gFld (C "Hours") "kept_rest" (gv 0)))))))
def y4 (C:Str->Addr):List En->Option En:=mir vW (qO C)
def vt:List Str:=["_law_script","_law_k"]
def vU:SD:=(sSeq (sIf (gb' (g2 fLt (gr 1) (gB fLen (gCons' (gr 0) gNil)))) (sRet (g2 fItem (gr 0) (gr 1))) sNext) (sRet (gc (.int 0))))
def zy:List En->Option En:=mir vt (vU)
def vX:List Str:=["_law_cell_here","_law_k","_law_number"]
def jY:SD:=(sSeq (sSet 2 (g2 fMod (g2 fPlus (g2 fPlus (g2 fMul (g2 fMod (gr 0) (gc (.int 2147483647))) (gc (.int 48271))) (g2 fMul (gc (.int 69621)) (gr 1))) (gc (.int 7))) (gc (.int 2147483647)))) (sSeq (sSet 2 (g2 fMod (g2 fMul (gr 2) (gr 2)) (gc (.int 2147483629)))) (sRet (g2 fMod (g2 fPlus (g2 fPlus (g2 fMul (gr 2) (gr 2)) (g2 fMul (gc (.int 16807)) (gr 2))) (gc (.int 11))) (gc (.int 2147483587))))))
def vw:List En->Option En:=mir vX (jY)
def jb:List Str:=["_law_script","_law_at","_law_base","_law_count","_law_cell_here","_law_found","_law_k"]
def jz:SD:=(sIf (gb' (g2 (fEq false) (g2 fAnd (g2 fShr (gCall (len? 2 zy) frzO (nCons (gn 0) (nCons (gVal (gc (.int 0))) nNil))) (g2 fMod (gr 1) (gc (.int 8)))) (gc (.int 1))) (gc (.int 0)))) (sSeq (sApp 5 (g2 fMod (gr 4) (gr 2))) (sSet 4 (g2 fDiv (gr 4) (gr 2)))) (sApp 5 (g2 fMod (g2 fDiv (gCall (len? 2 vw) frzO (nCons (gn 4) (nCons (gn 6) nNil))) (gc (.int 8))) (gr 2))))
def jD:SD:=(sSeq (sSet 4 (gCall (len? 2 zy) frzO (nCons (gn 0) (nCons (gn 1) nNil)))) (sSeq (sSetA 5 (gLst gNil)) (sSeq (sFor (.name 6) (gR1 (gCons' (gr 3) gNil)) jz) (sRetV 5))))
def yn:List En->Option En:=mir jb (jD)
def jl:List Str:=["_law_e","_law_found"]
def jS (C:Str->Addr):SD:=(sSeq (sSet 1 (gFz (gLst (gCons' (gIsV [(C "Doubled",false),(C "Taken",false),(C "NoTicket",false),(C "NotBegun",false),(C "NoBooking",false),(C "NotKept",false),(C "NoCounter",false),(C "TooMany",false),(C "NoName",true),(C "NoNumber",false),(C "NoHours",false),(C "NoLine",false),(C "NoBreak",false)] (gv 0)) (gCons' (gIsV [(C "Doubled",false),(C "Taken",false),(C "NoTicket",false),(C "NotBegun",false),(C "NoBooking",false),(C "NotKept",false),(C "NoCounter",false),(C "TooMany",false),(C "NoName",false),(C "NoNumber",true),(C "NoHours",false),(C "NoLine",false),(C "NoBreak",false)] (gv 0)) (gCons' (gIsV [(C "Doubled",false),(C "Taken",false),(C "NoTicket",false),(C "NotBegun",false),(C "NoBooking",false),(C "NotKept",false),(C "NoCounter",false),(C "TooMany",false),(C "NoName",false),(C "NoNumber",false),(C "NoHours",true),(C "NoLine",false),(C "NoBreak",false)] (gv 0)) (gCons' (gIsV [(C "Doubled",false),(C "Taken",false),(C "NoTicket",false),(C "NotBegun",false),(C "NoBooking",false),(C "NotKept",false),(C "NoCounter",false),(C "TooMany",false),(C "NoName",false),(C "NoNumber",false),(C "NoHours",false),(C "NoLine",true),(C "NoBreak",false)] (gv 0)) gNil))))))) (sSeq (sSet 1 (gFz (g2 fCatS (gr 1) (gFz (gLst (gCons' (gIsV [(C "Doubled",false),(C "Taken",false),(C "NoTicket",false),(C "NotBegun",false),(C "NoBooking",false),(C "NotKept",false),(C "NoCounter",false),(C "TooMany",true),(C "NoName",false),(C "NoNumber",false),(C "NoHours",false),(C "NoLine",false),(C "NoBreak",false)] (gv 0)) (gCons' (gIsV [(C "Doubled",true),(C "Taken",false),(C "NoTicket",false),(C "NotBegun",false),(C "NoBooking",false),(C "NotKept",false),(C "NoCounter",false),(C "TooMany",false),(C "NoName",false),(C "NoNumber",false),(C "NoHours",false),(C "NoLine",false),(C "NoBreak",false)] (gv 0)) (gCons' (gIsV [(C "Doubled",false),(C "Taken",true),(C "NoTicket",false),(C "NotBegun",false),(C "NoBooking",false),(C "NotKept",false),(C "NoCounter",false),(C "TooMany",false),(C "NoName",false),(C "NoNumber",false),(C "NoHours",false),(C "NoLine",false),(C "NoBreak",false)] (gv 0)) (gCons' (gIsV [(C "Doubled",false),(C "Taken",false),(C "NoTicket",true),(C "NotBegun",false),(C "NoBooking",false),(C "NotKept",false),(C "NoCounter",false),(C "TooMany",false),(C "NoName",false),(C "NoNumber",false),(C "NoHours",false),(C "NoLine",false),(C "NoBreak",false)] (gv 0)) gNil))))))))) (sSeq (sSet 1 (gFz (g2 fCatS (gr 1) (gFz (gLst (gCons' (gIsV [(C "Doubled",false),(C "Taken",false),(C "NoTicket",false),(C "NotBegun",true),(C "NoBooking",false),(C "NotKept",false),(C "NoCounter",false),(C "TooMany",false),(C "NoName",false),(C "NoNumber",false),(C "NoHours",false),(C "NoLine",false),(C "NoBreak",false)] (gv 0)) (gCons' (gIsV [(C "Doubled",false),(C "Taken",false),(C "NoTicket",false),(C "NotBegun",false),(C "NoBooking",true),(C "NotKept",false),(C "NoCounter",false),(C "TooMany",false),(C "NoName",false),(C "NoNumber",false),(C "NoHours",false),(C "NoLine",false),(C "NoBreak",false)] (gv 0)) (gCons' (gIsV [(C "Doubled",false),(C "Taken",false),(C "NoTicket",false),(C "NotBegun",false),(C "NoBooking",false),(C "NotKept",true),(C "NoCounter",false),(C "TooMany",false),(C "NoName",false),(C "NoNumber",false),(C "NoHours",false),(C "NoLine",false),(C "NoBreak",false)] (gv 0)) gNil)))))))) (sSeq (sSet 1 (gFz (g2 fCatS (gr 1) (gFz (gLst (gCons' (gIsV [(C "Doubled",false),(C "Taken",false),(C "NoTicket",false),(C "NotBegun",false),(C "NoBooking",false),(C "NotKept",false),(C "NoCounter",false),(C "TooMany",false),(C "NoName",false),(C "NoNumber",false),(C "NoHours",false),(C "NoLine",false),(C "NoBreak",true)] (gv 0)) (gCons' (gIsV [(C "Doubled",false),(C "Taken",false),(C "NoTicket",false),(C "NotBegun",false),(C "NoBooking",false),(C "NotKept",false),(C "NoCounter",true),(C "TooMany",false),(C "NoName",false),(C "NoNumber",false),(C "NoHours",false),(C "NoLine",false),(C "NoBreak",false)] (gv 0)) gNil))))))) (sRetA (g2 fCatS (gr 1) (gFz (gLst (gCons' (gIsV [(C "Doubled",true),(C "Taken",true),(C "NoTicket",true),(C "NotBegun",true),(C "NoBooking",true),(C "NotKept",true),(C "NoCounter",true),(C "TooMany",true),(C "NoName",true),(C "NoNumber",true),(C "NoHours",true),(C "NoLine",true),(C "NoBreak",true)] (gv 0)) (gCons' (gIsV [(C "Doubled",true),(C "Taken",true),(C "NoTicket",true),(C "NotBegun",true),(C "NoBooking",true),(C "NotKept",true),(C "NoCounter",true),(C "TooMany",true),(C "NoName",true),(C "NoNumber",true),(C "NoHours",true),(C "NoLine",true),(C "NoBreak",true)] (gv 0)) gNil))))))))))
def y9 (C:Str->Addr):List En->Option En:=mir jl (jS C)
def vi:List Str:=["_law_e","_law_at"]
def Q3:EnvD->Option D:=(g2 (fEq false) (gr 0) (gr 1))
def qK (C:Str->Addr):SD:=(sRet (g2 (fEq false) (gFz (gCall (len? 1 (y9 C)) accO (nCons (gn 0) nNil))) (gFz (g2 fCatS (gFz (gComp ["_law_k"] [("_law_at",1)] (.name 0) tYes Q3 (gR1 (gCons' (gc (.int 13)) gNil)))) (gFz (gLst (gCons' (gc (.bl true)) (gCons' (gc (.bl true)) gNil))))))))
def zJ (C:Str->Addr):List En->Option En:=mir vi (qK C)
def jR:List Str:=["_law_name","_law_one","_law_other","_law_k","_law_e","_law_broken","_law_bare"]
def wo (C:Str->Addr):SD:=(sIf (gOr (gNot (gt (gCall (len? 2 (zJ C)) frzO (nCons (gn 4) (nCons (gVal (g2 fPlus (gc (.int 5)) (gr 3))) nNil))))) (gb' (g2 (fEq true) (gXat [C "Doubled",C "Taken",C "NoTicket",C "NotBegun",C "NoBooking",C "NotKept"] "name" (gv 4)) (gr 0)))) (sRet (gc (.bl false))) sNext)
def wC (C:Str->Addr):SD:=(sIf (gNot (gt (gCall (len? 2 (zJ C)) frzO (nCons (gn 4) (nCons (gn 3) nNil))))) (sRet (gc (.bl false))) sNext)
def vZ (C:Str->Addr):SD:=(sSeq (sFor (.tup [3,4]) (gEn (gCons' (gFz (gLst (gCons' (gMk0 (C "NoName") (gc (.str "a"))) (gCons' (gMk0 (C "NoNumber") (gc (.str "b"))) (gCons' (gMk0 (C "NoHours") (gc (.str "c"))) (gCons' (gMk0 (C "NoLine") (gc (.str "d"))) (gCons' (gMk0 (C "TooMany") (gc (.str "e"))) gNil))))))) gNil)) (wC C)) (sSeq (sFor (.tup [3,4]) (gEn (gCons' (gFz (gLst (gCons' (gMk1 (C "Doubled") "name" (gv 0)) (gCons' (gMk1 (C "Taken") "name" (gv 0)) (gCons' (gMk1 (C "NoTicket") "name" (gv 0)) (gCons' (gMk1 (C "NotBegun") "name" (gv 0)) (gCons' (gMk1 (C "NoBooking") "name" (gv 0)) (gCons' (gMk1 (C "NotKept") "name" (gv 0)) gNil)))))))) gNil)) (wo C)) (sSeq (sSet 5 (gMk2 (C "NoBreak") "first" "last" (gv 1) (gv 2))) (sSeq (sSet 6 (gMk1 (C "NoCounter") "turn" (gv 1))) (sSeq (sIf (gOr (gNot (gt (gCall (len? 2 (zJ C)) frzO (nCons (gn 5) (nCons (gVal (gc (.int 11))) nNil))))) (gOr (gb' (g2 (fEq true) (gXat [C "NoBreak"] "first" (gv 5)) (gr 1))) (gb' (g2 (fEq true) (gXat [C "NoBreak"] "last" (gv 5)) (gr 2))))) (sRet (gc (.bl false))) sNext) (sRet (gAndV (gCall (len? 2 (zJ C)) frzO (nCons (gn 6) (nCons (gVal (gc (.int 12))) nNil))) (g2 (fEq false) (gXat [C "NoCounter"] "turn" (gv 6)) (gr 1)))))))))
def xF (C:Str->Addr):List En->Option En:=mir jR (vZ C)
def xE:List Str:=["_law_script","_law_signs","_law_many","_law_text_here"]
def qM:EnvD->Option D:=(g2 fItem (gc (.str "az09")) (gr 0))
def j4:EnvD->Option D:=(g2 fItem (gr 1) (gr 0))
def vN:SD:=(sSeq (sSet 1 (gc (.str "abz059AZ _-,"))) (sSeq (sSet 2 (g2 fMod (gCall (len? 2 zy) frzO (nCons (gn 0) (nCons (gVal (gc (.int 1))) nNil))) (gc (.int 11)))) (sSeq (sSet 3 (gSM fJoin (gc (.str "")) (gCons' (gFz (gComp ["_law_place"] [("_law_signs",1)] (.name 0) tYes j4 (gIt (gFz (gCall (len? 4 yn) accO (nCons (gn 0) (nCons (gVal (gc (.int 2))) (nCons (gVal (gc (.int 12))) (nCons (gn 2) nNil))))))))) gNil))) (sSeq (sIf (gb' (g2 fGt (g2 fMod (g2 fDiv (gCall (len? 2 zy) frzO (nCons (gn 0) (nCons (gVal (gc (.int 1))) nNil))) (gc (.int 11))) (gc (.int 3))) (gc (.int 0)))) (sSet 3 (gSM fJoin (gc (.str "")) (gCons' (gFz (gComp ["_law_place"] [] (.name 0) tYes qM (gIt (gFz (gCall (len? 4 yn) accO (nCons (gn 0) (nCons (gVal (gc (.int 2))) (nCons (gVal (gc (.int 4))) (nCons (gn 2) nNil))))))))) gNil))) sNext) (sRetV 3)))))
def xn:List En->Option En:=mir xE (vN)
def yM:List Str:=["_law_text_here"]
def jE:EnvD->Option D:=(gv 0)
def xo:SD:=(sSeq (sIf (gOr (gb' (g2 (fEq false) (gB fLen (gCons' (gr 0) gNil)) (gc (.int 0)))) (gOr (gb' (g2 fGt (gB fLen (gCons' (gr 0) gNil)) (gc (.int 8)))) (gNot (gb' (g3 fLeT fLeT (gc (.str "a")) (g2 fItem (gr 0) (gc (.int 0))) (gc (.str "z"))))))) (sRet (gc (.bl false))) sNext) (sRet (g2 (fEq false) (gB fLen (gCons' (gFz (gComp ["_law_sign"] [] (.name 0) (gOr (gb' (g3 fLeT fLeT (gc (.str "a")) (gr 0) (gc (.str "z")))) (gb' (g3 fLeT fLeT (gc (.str "0")) (gr 0) (gc (.str "9"))))) jE (gItS (gr 0)))) gNil)) (gB fLen (gCons' (gr 0) gNil)))))
def yL:List En->Option En:=mir yM (xo)
def jL:List Str:=["_law_found","_law_due"]
def uI:SD:=(sRet (gAndV (gIs "bool" (gr 0)) (g2 (fEq false) (gr 0) (gr 1))))
def yc:List En->Option En:=mir jL (uI)
def jO:List Str:=["_law_text_here","_law_number","_law_thing","_law_low","_law_high"]
def qr:SD:=(sIf (gNot (gt (gCall (len? 2 yc) frzO (nCons (gVal (gCall (len? 3 z6) frzO (nCons (gn 1) (nCons (gn 3) (nCons (gn 4) nNil))))) (nCons (gVal (g3 fLe fLe (gr 3) (gr 1) (gr 4))) nNil))))) (sRet (gc (.bl false))) sNext)
def wA:SD:=(sSeq (sIf (gOr (gNot (gt (gCall (len? 2 yc) frzO (nCons (gVal (gCall (len? 1 yf) frzO (nCons (gn 2) nNil))) (nCons (gVal (gc (.bl false))) nNil))))) (gNot (gt (gCall (len? 2 yc) frzO (nCons (gVal (gCall (len? 1 zX) frzO (nCons (gn 2) nNil))) (nCons (gVal (gc (.bl false))) nNil)))))) (sRet (gc (.bl false))) sNext) (sIf (gNot (gt (gCall (len? 2 yc) frzO (nCons (gVal (gCall (len? 3 z6) frzO (nCons (gn 2) (nCons (gVal (gNeg (gc (.int 9)))) (nCons (gVal (gc (.int 9))) nNil))))) (nCons (gVal (gc (.bl false))) nNil))))) (sRet (gc (.bl false))) sNext))
def vJ:SD:=(sSeq (sFor (.name 2) (gIt (gFz (gLst (gCons' (gc .non) (gCons' (gc (.bl true)) (gCons' (gc (.bl false)) (gCons' (gFz (gLst (gCons' (gv 0) gNil))) (gCons' (gTup' (gCons' (gv 0) gNil)) (gCons' (gc .emp) (gCons' (gFz (gLst gNil)) (gCons' (gc (.xc (.dic "a" 1))) gNil))))))))))) wA) (sSeq (sIf (gOr (gNot (gt (gCall (len? 2 yc) frzO (nCons (gVal (gCall (len? 1 yf) frzO (nCons (gn 0) nNil))) (nCons (gVal (gCall (len? 1 yL) frzO (nCons (gn 0) nNil))) nNil))))) (gNot (gt (gCall (len? 2 yc) frzO (nCons (gVal (gCall (len? 1 yf) frzO (nCons (gn 1) nNil))) (nCons (gVal (gc (.bl false))) nNil)))))) (sRet (gc (.bl false))) sNext) (sSeq (sIf (gOr (gNot (gt (gCall (len? 2 yc) frzO (nCons (gVal (gCall (len? 1 zX) frzO (nCons (gn 0) nNil))) (nCons (gVal (gc (.bl false))) nNil))))) (gNot (gt (gCall (len? 2 yc) frzO (nCons (gVal (gCall (len? 1 zX) frzO (nCons (gn 1) nNil))) (nCons (gVal (gc (.bl true))) nNil)))))) (sRet (gc (.bl false))) sNext) (sSeq (sFor (.tup [3,4]) (gIt (gFz (gLst (gCons' (gTup' (gCons' (gv 1) (gCons' (gv 1) gNil))) (gCons' (gTup' (gCons' (g2 fSub (gr 1) (gc (.int 1))) (gCons' (g2 fPlus (gr 1) (gc (.int 5))) gNil))) (gCons' (gTup' (gCons' (g2 fPlus (gr 1) (gc (.int 1))) (gCons' (g2 fPlus (gr 1) (gc (.int 5))) gNil))) (gCons' (gTup' (gCons' (g2 fSub (gr 1) (gc (.int 5))) (gCons' (g2 fSub (gr 1) (gc (.int 1))) gNil))) gNil))))))) qr) (sRet (gc (.bl true)))))))
def wJ:List En->Option En:=mir jO (vJ)
def j6:List Str:=["_law_cell_here","_law_low","_law_high","_law_far","_law_some"]
def vG:SD:=(sSeq (sSet 3 (g2 fPlus (g2 fPow (gc (.int 10)) (gc (.int 20))) (g2 fMod (gr 0) (g2 fPow (gc (.int 10)) (gc (.int 20)))))) (sSeq (sSet 4 (gFz (gLst (gCons' (g2 fSub (gr 1) (gc (.int 1))) (gCons' (g2 fPlus (gr 2) (gc (.int 1))) (gCons' (g2 fSub (gr 1) (gr 3)) (gCons' (g2 fPlus (gr 2) (gr 3)) (gCons' (gc (.bl true)) (gCons' (gc .non) (gCons' (gc (.str "1")) (gCons' (gFz (gLst (gCons' (gv 1) gNil))) (gCons' (gTup' (gCons' (gv 1) gNil)) (gCons' (gc (.bl false)) (gCons' (gc .emp) gNil)))))))))))))) (sRet (g2 fItem (gr 4) (g2 fMod (gr 0) (gc (.int 11)))))))
def yu:List En->Option En:=mir j6 (vG)
def wz:List Str:=["_law_cell_here","_law_way"]
def vj:SD:=(sSeq (sSet 1 (g2 fMod (gr 0) (gc (.int 10)))) (sSeq (sIf (gb' (g2 fLt (gr 1) (gc (.int 4)))) (sRet (gTup' (gCons' (gCall (len? 3 yu) frzO (nCons (gVal (g2 fDiv (gr 0) (gc (.int 10)))) (nCons (gVal (gc (.int 1))) (nCons (gVal (gc (.int 100))) nNil)))) (gCons' (gc (.int 3)) gNil)))) sNext) (sSeq (sIf (gb' (g2 fLt (gr 1) (gc (.int 7)))) (sRet (gTup' (gCons' (gc (.int 3)) (gCons' (gCall (len? 3 yu) frzO (nCons (gVal (g2 fDiv (gr 0) (gc (.int 10)))) (nCons (gVal (gc (.int 0))) (nCons (gVal (gc (.int 8))) nNil)))) gNil)))) sNext) (sRet (g2 fItem (gFz (gLst (gCons' (gFz (gLst (gCons' (gc (.int 1)) (gCons' (gc (.int 1)) gNil)))) (gCons' (gTup' (gCons' (gc (.int 1)) gNil)) (gCons' (gTup' (gCons' (gc (.int 1)) (gCons' (gc (.int 1)) (gCons' (gc (.int 1)) gNil)))) (gCons' (gc (.int 1)) (gCons' (gc .non) (gCons' (gc (.str "11")) (gCons' (gc .emp) (gCons' (gTup' gNil) gNil)))))))))) (g2 fMod (g2 fDiv (gr 0) (gc (.int 10))) (gc (.int 8))))))))
def yK:List En->Option En:=mir wz (vj)
def qt:List Str:=["_law_rows","_law_rest","_law_found","_law_e"]
def vQ (C:Str->Addr):SD:=(sSeq (sSet 2 (gc .non)) (sSeq (sTryK C ["NoHours"] 3 2 (yE (yMake xx (nCons (gn 0) (nCons (gn 1) nNil))))) (sRet (gAndV (g2 (fIs true) (gr 2) (gc .non)) (gCall (len? 2 (zJ C)) frzO (nCons (gn 2) (nCons (gVal (gc (.int 2))) nNil)))))))
def yZ (C:Str->Addr):List En->Option En:=mir qt (vQ C)
def vh:List Str:=["_law_script","_law_number","_law_text_here","_law_many","_law_turns","_law_counters","_law_rows","_law_at","_law_bad","_law_lists","_law_handed","_law_kept","_law_hours","_law_most"]
def vk:EnvD->Option D:=(gTup' (gCons' (gc (.int 100)) (gCons' (g2 fMul (gc (.int 8)) (g2 fMod (gr 0) (gc (.int 2)))) gNil)))
def vd (C:Str->Addr):SD:=(sIf (gNot (gt (gCall (len? 2 (yZ C)) frzO (nCons (gn 10) (nCons (gVal (gc (.int 1))) nNil))))) (sRet (gc (.bl false))) sNext)
def vo:EnvD->Option D:=(gTup' (gCons' (g2 fPlus (gc (.int 1)) (g2 fItem (gr 2) (gr 0))) (gCons' (g2 fItem (gr 1) (gr 0)) gNil)))
def vS (C:Str->Addr):SD:=(sSeq (sSet 1 (g2 fSub (g2 fMod (gCall (len? 2 zy) frzO (nCons (gn 0) (nCons (gVal (gc (.int 3))) nNil))) (g2 fPlus (g2 fMul (gc (.int 2)) (g2 fPow (gc (.int 10)) (gc (.int 30)))) (gc (.int 1)))) (g2 fPow (gc (.int 10)) (gc (.int 30))))) (sSeq (sSet 2 (gCall (len? 1 xn) frzO (nCons (gn 0) nNil))) (sSeq (sIf (gOr (gNot (gt (gCall (len? 3 (xF C)) frzO (nCons (gVal (g2 fPlus (gc (.str "n")) (gr 2))) (nCons (gn 1) (nCons (gVal (g2 fDiv (gr 1) (gc (.int 7)))) nNil)))))) (gNot (gt (gCall (len? 2 wJ) frzO (nCons (gn 2) (nCons (gn 1) nNil)))))) (sRet (gc (.bl false))) sNext) (sSeq (sSet 3 (g2 fPlus (gc (.int 1)) (g2 fMod (gCall (len? 2 zy) frzO (nCons (gn 0) (nCons (gVal (gc (.int 4))) nNil))) (gc (.int 8))))) (sSeq (sSet 4 (gFz (gCall (len? 4 yn) accO (nCons (gn 0) (nCons (gVal (gc (.int 5))) (nCons (gVal (gc (.int 100))) (nCons (gn 3) nNil))))))) (sSeq (sSet 5 (gFz (gCall (len? 4 yn) accO (nCons (gn 0) (nCons (gVal (gc (.int 6))) (nCons (gVal (gc (.int 9))) (nCons (gn 3) nNil))))))) (sSeq (sSet 6 (gFz (gComp ["_law_k"] [("_law_counters",5),("_law_turns",4)] (.name 0) tYes vo (gR1 (gCons' (gr 3) gNil))))) (sSeq (sSet 7 (g2 fMod (g2 fDiv (gCall (len? 2 zy) frzO (nCons (gn 0) (nCons (gVal (gc (.int 4))) nNil))) (gc (.int 8))) (g2 fPlus (gr 3) (gc (.int 1))))) (sSeq (sSet 8 (gCall (len? 1 yK) frzO (nCons (gVal (gCall (len? 2 zy) frzO (nCons (gn 0) (nCons (gVal (gc (.int 7))) nNil)))) nNil))) (sSeq (sSet 9 (gFz (gLst (gCons' (gFz (g2 fCatS (gFz (g2 fCatS (gFz (gSl (gr 6) gNone (gSome (gr 7)))) (gFz (gLst (gCons' (gv 8) gNil))))) (gFz (gSl (gr 6) (gSome (gr 7)) gNone)))) (gCons' (gB fTupL (gCons' (gr 6) gNil)) (gCons' (gc .non) (gCons' (gc (.int 5)) (gCons' (gc (.str "a")) (gCons' (gc .emp) (gCons' (g2 fItem (gr 6) (gc (.int 0))) (gCons' (gFz (g2 fRep (gFz (gLst (gCons' (gTup' (gCons' (gc (.int 1)) (gCons' (gc (.int 1)) gNil))) gNil))) (gc (.int 17)))) gNil))))))))))) (sSeq (sFor (.name 10) (gIt (gf 9)) (vd C)) (sSeq (sSet 11 (gFz (gB fList (gCons' (gr 6) gNil)))) (sSeq (sIf (gOr (gNot (gt (gCall (len? 2 (yZ C)) frzO (nCons (gn 6) (nCons (gVal (gCall (len? 3 yu) frzO (nCons (gVal (gCall (len? 2 zy) frzO (nCons (gn 0) (nCons (gVal (gc (.int 8))) nNil)))) (nCons (gVal (gc (.int 1))) (nCons (gVal (gc (.int 8))) nNil))))) nNil))))) (gb' (g2 (fEq true) (gr 6) (gr 11)))) (sRet (gc (.bl false))) sNext) (sSeq (sSet 12 (gMake (C "Hours") 2 (y1 C) (nCons (gn 6) (nCons (gVal (gc (.int 8))) nNil)))) (sSeq (sSet 13 (gMake (C "Hours") 2 (y1 C) (nCons (gVal (gFz (gComp ["_law_k"] [] (.name 0) tYes vk (gR1 (gCons' (gc (.int 16)) gNil))))) (nCons (gVal (gc (.int 1))) nNil)))) (sRet (gAndV (g2 (fEq false) (gr 6) (gr 11)) (gAndV (g2 (fEq false) (gMeth (C "Hours") "rest" (len? 1 (yQ C)) frzO (gv 12) nNil) (gc (.int 8))) (gAndV (g2 (fEq false) (gMeth (C "Hours") "end" (len? 1 (yG C)) frzO (gv 13) nNil) (gc (.int 1600))) (g2 (fEq false) (gMeth (C "Hours") "at" (len? 2 (y4 C)) frzO (gv 13) (nCons (gVal (gc (.int 1599))) nNil)) (gc (.int 8))))))))))))))))))))))
def WH (C:Str->Addr):List En->Option En:=mir vh (vS C)
structure Txt (K:PySem.W.Frag)(mg:Str->Option Value)(C:Str->Addr):Prop where
 cl_Hours:Cls K (C "Hours")
 n_Hours_kept_rest:NoAttr K (C "Hours") "kept_rest"
 n_Hours_spans:NoAttr K (C "Hours") "spans"
 b_ValueError:mg "ValueError" = none
 b_all:mg "all" = none
 b_bool:mg "bool" = none
 b_enumerate:mg "enumerate" = none
 b_int:mg "int" = none
 b_isinstance:mg "isinstance" = none
 b_len:mg "len" = none
 b_list:mg "list" = none
 b_range:mg "range" = none
 b_str:mg "str" = none
 b_tuple:mg "tuple" = none
 c_FIGURES':∃t,mg "FIGURES" = some (.str "0123456789" t)
 c_LETTERS':∃t,mg "LETTERS" = some (.str "abcdefghijklmnopqrstuvwxyz" t)
 c_MOST_COUNTERS':∃t,mg "MOST_COUNTERS" = some (.int 8 t)
 c_MOST_ROWS':∃t,mg "MOST_ROWS" = some (.int 16 t)
 c_MOST_SIGNS':∃t,mg "MOST_SIGNS" = some (.int 8 t)
 c_MOST_TURNS':∃t,mg "MOST_TURNS" = some (.int 100 t)
structure Exs (P:Program)(w:World)(K:PySem.W.Frag)(mg:Str->Option Value)(base:Heap)(C:Str->Addr):Prop where
 i_Doubled:ExI P w K mg base (C "Doubled") (C "HallError") "name"
 i_NoBooking:ExI P w K mg base (C "NoBooking") (C "HallError") "name"
 i_NoCounter:ExI P w K mg base (C "NoCounter") (C "HallError") "turn"
 i_NoTicket:ExI P w K mg base (C "NoTicket") (C "HallError") "name"
 i_NotBegun:ExI P w K mg base (C "NotBegun") (C "HallError") "name"
 i_NotKept:ExI P w K mg base (C "NotKept") (C "HallError") "name"
 i_Taken:ExI P w K mg base (C "Taken") (C "HallError") "name"
 is_Doubled:XI K (C "Doubled")
 is_NoBooking:XI K (C "NoBooking")
 is_NoBreak:XI K (C "NoBreak")
 is_NoCounter:XI K (C "NoCounter")
 is_NoHours:XI K (C "NoHours")
 is_NoLine:XI K (C "NoLine")
 is_NoName:XI K (C "NoName")
 is_NoNumber:XI K (C "NoNumber")
 is_NoTicket:XI K (C "NoTicket")
 is_NotBegun:XI K (C "NotBegun")
 is_NotKept:XI K (C "NotKept")
 is_Taken:XI K (C "Taken")
 is_TooMany:XI K (C "TooMany")
 j_NoBreak:ExI2 P w K mg base (C "NoBreak") (C "HallError") "first" "last"
 m_Doubled:mg "Doubled" = some (.ref (C "Doubled"))
 m_HallError:mg "HallError" = some (.ref (C "HallError"))
 m_NoBooking:mg "NoBooking" = some (.ref (C "NoBooking"))
 m_NoBreak:mg "NoBreak" = some (.ref (C "NoBreak"))
 m_NoCounter:mg "NoCounter" = some (.ref (C "NoCounter"))
 m_NoHours:mg "NoHours" = some (.ref (C "NoHours"))
 m_NoLine:mg "NoLine" = some (.ref (C "NoLine"))
 m_NoName:mg "NoName" = some (.ref (C "NoName"))
 m_NoNumber:mg "NoNumber" = some (.ref (C "NoNumber"))
 m_NoTicket:mg "NoTicket" = some (.ref (C "NoTicket"))
 m_NotBegun:mg "NotBegun" = some (.ref (C "NotBegun"))
 m_NotKept:mg "NotKept" = some (.ref (C "NotKept"))
 m_Taken:mg "Taken" = some (.ref (C "Taken"))
 m_TooMany:mg "TooMany" = some (.ref (C "TooMany"))
 t1_Doubled_ValueError:kitOne K (.ref (C "Doubled")) (.type "ValueError")=some true
 t1_NoBooking_ValueError:kitOne K (.ref (C "NoBooking")) (.type "ValueError")=some true
 t1_NoBreak_ValueError:kitOne K (.ref (C "NoBreak")) (.type "ValueError")=some true
 t1_NoCounter_ValueError:kitOne K (.ref (C "NoCounter")) (.type "ValueError")=some true
 t1_NoHours_ValueError:kitOne K (.ref (C "NoHours")) (.type "ValueError")=some true
 t1_NoLine_ValueError:kitOne K (.ref (C "NoLine")) (.type "ValueError")=some true
 t1_NoName_ValueError:kitOne K (.ref (C "NoName")) (.type "ValueError")=some true
 t1_NoNumber_ValueError:kitOne K (.ref (C "NoNumber")) (.type "ValueError")=some true
 t1_NoTicket_ValueError:kitOne K (.ref (C "NoTicket")) (.type "ValueError")=some true
 t1_NotBegun_ValueError:kitOne K (.ref (C "NotBegun")) (.type "ValueError")=some true
 t1_NotKept_ValueError:kitOne K (.ref (C "NotKept")) (.type "ValueError")=some true
 t1_Taken_ValueError:kitOne K (.ref (C "Taken")) (.type "ValueError")=some true
 t1_TooMany_ValueError:kitOne K (.ref (C "TooMany")) (.type "ValueError")=some true
 x_NoHours:XC0 K (C "NoHours")
 x_NoLine:XC0 K (C "NoLine")
 x_NoName:XC0 K (C "NoName")
 x_NoNumber:XC0 K (C "NoNumber")
 x_TooMany:XC0 K (C "TooMany")
 y_NoHours_HallError:XM K (C "NoHours") (C "HallError")
 z0_Doubled_NoBooking:kitOne K (.ref (C "Doubled")) (.ref (C "NoBooking"))=some false
 z0_Doubled_NoBreak:kitOne K (.ref (C "Doubled")) (.ref (C "NoBreak"))=some false
 z0_Doubled_NoCounter:kitOne K (.ref (C "Doubled")) (.ref (C "NoCounter"))=some false
 z0_Doubled_NoHours:kitOne K (.ref (C "Doubled")) (.ref (C "NoHours"))=some false
 z0_Doubled_NoLine:kitOne K (.ref (C "Doubled")) (.ref (C "NoLine"))=some false
 z0_Doubled_NoName:kitOne K (.ref (C "Doubled")) (.ref (C "NoName"))=some false
 z0_Doubled_NoNumber:kitOne K (.ref (C "Doubled")) (.ref (C "NoNumber"))=some false
 z0_Doubled_NoTicket:kitOne K (.ref (C "Doubled")) (.ref (C "NoTicket"))=some false
 z0_Doubled_NotBegun:kitOne K (.ref (C "Doubled")) (.ref (C "NotBegun"))=some false
 z0_Doubled_NotKept:kitOne K (.ref (C "Doubled")) (.ref (C "NotKept"))=some false
 z0_Doubled_Taken:kitOne K (.ref (C "Doubled")) (.ref (C "Taken"))=some false
 z0_Doubled_TooMany:kitOne K (.ref (C "Doubled")) (.ref (C "TooMany"))=some false
 z0_NoBooking_Doubled:kitOne K (.ref (C "NoBooking")) (.ref (C "Doubled"))=some false
 z0_NoBooking_NoBreak:kitOne K (.ref (C "NoBooking")) (.ref (C "NoBreak"))=some false
 z0_NoBooking_NoCounter:kitOne K (.ref (C "NoBooking")) (.ref (C "NoCounter"))=some false
 z0_NoBooking_NoHours:kitOne K (.ref (C "NoBooking")) (.ref (C "NoHours"))=some false
 z0_NoBooking_NoLine:kitOne K (.ref (C "NoBooking")) (.ref (C "NoLine"))=some false
 z0_NoBooking_NoName:kitOne K (.ref (C "NoBooking")) (.ref (C "NoName"))=some false
 z0_NoBooking_NoNumber:kitOne K (.ref (C "NoBooking")) (.ref (C "NoNumber"))=some false
 z0_NoBooking_NoTicket:kitOne K (.ref (C "NoBooking")) (.ref (C "NoTicket"))=some false
 z0_NoBooking_NotBegun:kitOne K (.ref (C "NoBooking")) (.ref (C "NotBegun"))=some false
 z0_NoBooking_NotKept:kitOne K (.ref (C "NoBooking")) (.ref (C "NotKept"))=some false
 z0_NoBooking_Taken:kitOne K (.ref (C "NoBooking")) (.ref (C "Taken"))=some false
 z0_NoBooking_TooMany:kitOne K (.ref (C "NoBooking")) (.ref (C "TooMany"))=some false
 z0_NoBreak_Doubled:kitOne K (.ref (C "NoBreak")) (.ref (C "Doubled"))=some false
 z0_NoBreak_NoBooking:kitOne K (.ref (C "NoBreak")) (.ref (C "NoBooking"))=some false
 z0_NoBreak_NoCounter:kitOne K (.ref (C "NoBreak")) (.ref (C "NoCounter"))=some false
 z0_NoBreak_NoHours:kitOne K (.ref (C "NoBreak")) (.ref (C "NoHours"))=some false
 z0_NoBreak_NoLine:kitOne K (.ref (C "NoBreak")) (.ref (C "NoLine"))=some false
 z0_NoBreak_NoName:kitOne K (.ref (C "NoBreak")) (.ref (C "NoName"))=some false
 z0_NoBreak_NoNumber:kitOne K (.ref (C "NoBreak")) (.ref (C "NoNumber"))=some false
 z0_NoBreak_NoTicket:kitOne K (.ref (C "NoBreak")) (.ref (C "NoTicket"))=some false
 z0_NoBreak_NotBegun:kitOne K (.ref (C "NoBreak")) (.ref (C "NotBegun"))=some false
 z0_NoBreak_NotKept:kitOne K (.ref (C "NoBreak")) (.ref (C "NotKept"))=some false
 z0_NoBreak_Taken:kitOne K (.ref (C "NoBreak")) (.ref (C "Taken"))=some false
 z0_NoBreak_TooMany:kitOne K (.ref (C "NoBreak")) (.ref (C "TooMany"))=some false
 z0_NoCounter_Doubled:kitOne K (.ref (C "NoCounter")) (.ref (C "Doubled"))=some false
 z0_NoCounter_NoBooking:kitOne K (.ref (C "NoCounter")) (.ref (C "NoBooking"))=some false
 z0_NoCounter_NoBreak:kitOne K (.ref (C "NoCounter")) (.ref (C "NoBreak"))=some false
 z0_NoCounter_NoHours:kitOne K (.ref (C "NoCounter")) (.ref (C "NoHours"))=some false
 z0_NoCounter_NoLine:kitOne K (.ref (C "NoCounter")) (.ref (C "NoLine"))=some false
 z0_NoCounter_NoName:kitOne K (.ref (C "NoCounter")) (.ref (C "NoName"))=some false
 z0_NoCounter_NoNumber:kitOne K (.ref (C "NoCounter")) (.ref (C "NoNumber"))=some false
 z0_NoCounter_NoTicket:kitOne K (.ref (C "NoCounter")) (.ref (C "NoTicket"))=some false
 z0_NoCounter_NotBegun:kitOne K (.ref (C "NoCounter")) (.ref (C "NotBegun"))=some false
 z0_NoCounter_NotKept:kitOne K (.ref (C "NoCounter")) (.ref (C "NotKept"))=some false
 z0_NoCounter_Taken:kitOne K (.ref (C "NoCounter")) (.ref (C "Taken"))=some false
 z0_NoCounter_TooMany:kitOne K (.ref (C "NoCounter")) (.ref (C "TooMany"))=some false
 z0_NoHours_Doubled:kitOne K (.ref (C "NoHours")) (.ref (C "Doubled"))=some false
 z0_NoHours_NoBooking:kitOne K (.ref (C "NoHours")) (.ref (C "NoBooking"))=some false
 z0_NoHours_NoBreak:kitOne K (.ref (C "NoHours")) (.ref (C "NoBreak"))=some false
 z0_NoHours_NoCounter:kitOne K (.ref (C "NoHours")) (.ref (C "NoCounter"))=some false
 z0_NoHours_NoLine:kitOne K (.ref (C "NoHours")) (.ref (C "NoLine"))=some false
 z0_NoHours_NoName:kitOne K (.ref (C "NoHours")) (.ref (C "NoName"))=some false
 z0_NoHours_NoNumber:kitOne K (.ref (C "NoHours")) (.ref (C "NoNumber"))=some false
 z0_NoHours_NoTicket:kitOne K (.ref (C "NoHours")) (.ref (C "NoTicket"))=some false
 z0_NoHours_NotBegun:kitOne K (.ref (C "NoHours")) (.ref (C "NotBegun"))=some false
 z0_NoHours_NotKept:kitOne K (.ref (C "NoHours")) (.ref (C "NotKept"))=some false
 z0_NoHours_Taken:kitOne K (.ref (C "NoHours")) (.ref (C "Taken"))=some false
 z0_NoHours_TooMany:kitOne K (.ref (C "NoHours")) (.ref (C "TooMany"))=some false
 z0_NoLine_Doubled:kitOne K (.ref (C "NoLine")) (.ref (C "Doubled"))=some false
 z0_NoLine_NoBooking:kitOne K (.ref (C "NoLine")) (.ref (C "NoBooking"))=some false
 z0_NoLine_NoBreak:kitOne K (.ref (C "NoLine")) (.ref (C "NoBreak"))=some false
 z0_NoLine_NoCounter:kitOne K (.ref (C "NoLine")) (.ref (C "NoCounter"))=some false
 z0_NoLine_NoHours:kitOne K (.ref (C "NoLine")) (.ref (C "NoHours"))=some false
 z0_NoLine_NoName:kitOne K (.ref (C "NoLine")) (.ref (C "NoName"))=some false
 z0_NoLine_NoNumber:kitOne K (.ref (C "NoLine")) (.ref (C "NoNumber"))=some false
 z0_NoLine_NoTicket:kitOne K (.ref (C "NoLine")) (.ref (C "NoTicket"))=some false
 z0_NoLine_NotBegun:kitOne K (.ref (C "NoLine")) (.ref (C "NotBegun"))=some false
 z0_NoLine_NotKept:kitOne K (.ref (C "NoLine")) (.ref (C "NotKept"))=some false
 z0_NoLine_Taken:kitOne K (.ref (C "NoLine")) (.ref (C "Taken"))=some false
 z0_NoLine_TooMany:kitOne K (.ref (C "NoLine")) (.ref (C "TooMany"))=some false
 z0_NoName_Doubled:kitOne K (.ref (C "NoName")) (.ref (C "Doubled"))=some false
 z0_NoName_NoBooking:kitOne K (.ref (C "NoName")) (.ref (C "NoBooking"))=some false
 z0_NoName_NoBreak:kitOne K (.ref (C "NoName")) (.ref (C "NoBreak"))=some false
 z0_NoName_NoCounter:kitOne K (.ref (C "NoName")) (.ref (C "NoCounter"))=some false
 z0_NoName_NoHours:kitOne K (.ref (C "NoName")) (.ref (C "NoHours"))=some false
 z0_NoName_NoLine:kitOne K (.ref (C "NoName")) (.ref (C "NoLine"))=some false
 z0_NoName_NoNumber:kitOne K (.ref (C "NoName")) (.ref (C "NoNumber"))=some false
 z0_NoName_NoTicket:kitOne K (.ref (C "NoName")) (.ref (C "NoTicket"))=some false
 z0_NoName_NotBegun:kitOne K (.ref (C "NoName")) (.ref (C "NotBegun"))=some false
 z0_NoName_NotKept:kitOne K (.ref (C "NoName")) (.ref (C "NotKept"))=some false
 z0_NoName_Taken:kitOne K (.ref (C "NoName")) (.ref (C "Taken"))=some false
 z0_NoName_TooMany:kitOne K (.ref (C "NoName")) (.ref (C "TooMany"))=some false
 z0_NoNumber_Doubled:kitOne K (.ref (C "NoNumber")) (.ref (C "Doubled"))=some false
 z0_NoNumber_NoBooking:kitOne K (.ref (C "NoNumber")) (.ref (C "NoBooking"))=some false
 z0_NoNumber_NoBreak:kitOne K (.ref (C "NoNumber")) (.ref (C "NoBreak"))=some false
 z0_NoNumber_NoCounter:kitOne K (.ref (C "NoNumber")) (.ref (C "NoCounter"))=some false
 z0_NoNumber_NoHours:kitOne K (.ref (C "NoNumber")) (.ref (C "NoHours"))=some false
 z0_NoNumber_NoLine:kitOne K (.ref (C "NoNumber")) (.ref (C "NoLine"))=some false
 z0_NoNumber_NoName:kitOne K (.ref (C "NoNumber")) (.ref (C "NoName"))=some false
 z0_NoNumber_NoTicket:kitOne K (.ref (C "NoNumber")) (.ref (C "NoTicket"))=some false
 z0_NoNumber_NotBegun:kitOne K (.ref (C "NoNumber")) (.ref (C "NotBegun"))=some false
 z0_NoNumber_NotKept:kitOne K (.ref (C "NoNumber")) (.ref (C "NotKept"))=some false
 z0_NoNumber_Taken:kitOne K (.ref (C "NoNumber")) (.ref (C "Taken"))=some false
 z0_NoNumber_TooMany:kitOne K (.ref (C "NoNumber")) (.ref (C "TooMany"))=some false
 z0_NoTicket_Doubled:kitOne K (.ref (C "NoTicket")) (.ref (C "Doubled"))=some false
 z0_NoTicket_NoBooking:kitOne K (.ref (C "NoTicket")) (.ref (C "NoBooking"))=some false
 z0_NoTicket_NoBreak:kitOne K (.ref (C "NoTicket")) (.ref (C "NoBreak"))=some false
 z0_NoTicket_NoCounter:kitOne K (.ref (C "NoTicket")) (.ref (C "NoCounter"))=some false
 z0_NoTicket_NoHours:kitOne K (.ref (C "NoTicket")) (.ref (C "NoHours"))=some false
 z0_NoTicket_NoLine:kitOne K (.ref (C "NoTicket")) (.ref (C "NoLine"))=some false
 z0_NoTicket_NoName:kitOne K (.ref (C "NoTicket")) (.ref (C "NoName"))=some false
 z0_NoTicket_NoNumber:kitOne K (.ref (C "NoTicket")) (.ref (C "NoNumber"))=some false
 z0_NoTicket_NotBegun:kitOne K (.ref (C "NoTicket")) (.ref (C "NotBegun"))=some false
 z0_NoTicket_NotKept:kitOne K (.ref (C "NoTicket")) (.ref (C "NotKept"))=some false
 z0_NoTicket_Taken:kitOne K (.ref (C "NoTicket")) (.ref (C "Taken"))=some false
 z0_NoTicket_TooMany:kitOne K (.ref (C "NoTicket")) (.ref (C "TooMany"))=some false
 z0_NotBegun_Doubled:kitOne K (.ref (C "NotBegun")) (.ref (C "Doubled"))=some false
 z0_NotBegun_NoBooking:kitOne K (.ref (C "NotBegun")) (.ref (C "NoBooking"))=some false
 z0_NotBegun_NoBreak:kitOne K (.ref (C "NotBegun")) (.ref (C "NoBreak"))=some false
 z0_NotBegun_NoCounter:kitOne K (.ref (C "NotBegun")) (.ref (C "NoCounter"))=some false
 z0_NotBegun_NoHours:kitOne K (.ref (C "NotBegun")) (.ref (C "NoHours"))=some false
 z0_NotBegun_NoLine:kitOne K (.ref (C "NotBegun")) (.ref (C "NoLine"))=some false
 z0_NotBegun_NoName:kitOne K (.ref (C "NotBegun")) (.ref (C "NoName"))=some false
 z0_NotBegun_NoNumber:kitOne K (.ref (C "NotBegun")) (.ref (C "NoNumber"))=some false
 z0_NotBegun_NoTicket:kitOne K (.ref (C "NotBegun")) (.ref (C "NoTicket"))=some false
 z0_NotBegun_NotKept:kitOne K (.ref (C "NotBegun")) (.ref (C "NotKept"))=some false
 z0_NotBegun_Taken:kitOne K (.ref (C "NotBegun")) (.ref (C "Taken"))=some false
 z0_NotBegun_TooMany:kitOne K (.ref (C "NotBegun")) (.ref (C "TooMany"))=some false
 z0_NotKept_Doubled:kitOne K (.ref (C "NotKept")) (.ref (C "Doubled"))=some false
 z0_NotKept_NoBooking:kitOne K (.ref (C "NotKept")) (.ref (C "NoBooking"))=some false
 z0_NotKept_NoBreak:kitOne K (.ref (C "NotKept")) (.ref (C "NoBreak"))=some false
 z0_NotKept_NoCounter:kitOne K (.ref (C "NotKept")) (.ref (C "NoCounter"))=some false
 z0_NotKept_NoHours:kitOne K (.ref (C "NotKept")) (.ref (C "NoHours"))=some false
 z0_NotKept_NoLine:kitOne K (.ref (C "NotKept")) (.ref (C "NoLine"))=some false
 z0_NotKept_NoName:kitOne K (.ref (C "NotKept")) (.ref (C "NoName"))=some false
 z0_NotKept_NoNumber:kitOne K (.ref (C "NotKept")) (.ref (C "NoNumber"))=some false
 z0_NotKept_NoTicket:kitOne K (.ref (C "NotKept")) (.ref (C "NoTicket"))=some false
 z0_NotKept_NotBegun:kitOne K (.ref (C "NotKept")) (.ref (C "NotBegun"))=some false
 z0_NotKept_Taken:kitOne K (.ref (C "NotKept")) (.ref (C "Taken"))=some false
 z0_NotKept_TooMany:kitOne K (.ref (C "NotKept")) (.ref (C "TooMany"))=some false
 z0_Taken_Doubled:kitOne K (.ref (C "Taken")) (.ref (C "Doubled"))=some false
 z0_Taken_NoBooking:kitOne K (.ref (C "Taken")) (.ref (C "NoBooking"))=some false
 z0_Taken_NoBreak:kitOne K (.ref (C "Taken")) (.ref (C "NoBreak"))=some false
 z0_Taken_NoCounter:kitOne K (.ref (C "Taken")) (.ref (C "NoCounter"))=some false
 z0_Taken_NoHours:kitOne K (.ref (C "Taken")) (.ref (C "NoHours"))=some false
 z0_Taken_NoLine:kitOne K (.ref (C "Taken")) (.ref (C "NoLine"))=some false
 z0_Taken_NoName:kitOne K (.ref (C "Taken")) (.ref (C "NoName"))=some false
 z0_Taken_NoNumber:kitOne K (.ref (C "Taken")) (.ref (C "NoNumber"))=some false
 z0_Taken_NoTicket:kitOne K (.ref (C "Taken")) (.ref (C "NoTicket"))=some false
 z0_Taken_NotBegun:kitOne K (.ref (C "Taken")) (.ref (C "NotBegun"))=some false
 z0_Taken_NotKept:kitOne K (.ref (C "Taken")) (.ref (C "NotKept"))=some false
 z0_Taken_TooMany:kitOne K (.ref (C "Taken")) (.ref (C "TooMany"))=some false
 z0_TooMany_Doubled:kitOne K (.ref (C "TooMany")) (.ref (C "Doubled"))=some false
 z0_TooMany_NoBooking:kitOne K (.ref (C "TooMany")) (.ref (C "NoBooking"))=some false
 z0_TooMany_NoBreak:kitOne K (.ref (C "TooMany")) (.ref (C "NoBreak"))=some false
 z0_TooMany_NoCounter:kitOne K (.ref (C "TooMany")) (.ref (C "NoCounter"))=some false
 z0_TooMany_NoHours:kitOne K (.ref (C "TooMany")) (.ref (C "NoHours"))=some false
 z0_TooMany_NoLine:kitOne K (.ref (C "TooMany")) (.ref (C "NoLine"))=some false
 z0_TooMany_NoName:kitOne K (.ref (C "TooMany")) (.ref (C "NoName"))=some false
 z0_TooMany_NoNumber:kitOne K (.ref (C "TooMany")) (.ref (C "NoNumber"))=some false
 z0_TooMany_NoTicket:kitOne K (.ref (C "TooMany")) (.ref (C "NoTicket"))=some false
 z0_TooMany_NotBegun:kitOne K (.ref (C "TooMany")) (.ref (C "NotBegun"))=some false
 z0_TooMany_NotKept:kitOne K (.ref (C "TooMany")) (.ref (C "NotKept"))=some false
 z0_TooMany_Taken:kitOne K (.ref (C "TooMany")) (.ref (C "Taken"))=some false
 z1_Doubled_Doubled:kitOne K (.ref (C "Doubled")) (.ref (C "Doubled"))=some true
 z1_Doubled_HallError:kitOne K (.ref (C "Doubled")) (.ref (C "HallError"))=some true
 z1_NoBooking_HallError:kitOne K (.ref (C "NoBooking")) (.ref (C "HallError"))=some true
 z1_NoBooking_NoBooking:kitOne K (.ref (C "NoBooking")) (.ref (C "NoBooking"))=some true
 z1_NoBreak_HallError:kitOne K (.ref (C "NoBreak")) (.ref (C "HallError"))=some true
 z1_NoBreak_NoBreak:kitOne K (.ref (C "NoBreak")) (.ref (C "NoBreak"))=some true
 z1_NoCounter_HallError:kitOne K (.ref (C "NoCounter")) (.ref (C "HallError"))=some true
 z1_NoCounter_NoCounter:kitOne K (.ref (C "NoCounter")) (.ref (C "NoCounter"))=some true
 z1_NoHours_HallError:kitOne K (.ref (C "NoHours")) (.ref (C "HallError"))=some true
 z1_NoHours_NoHours:kitOne K (.ref (C "NoHours")) (.ref (C "NoHours"))=some true
 z1_NoLine_HallError:kitOne K (.ref (C "NoLine")) (.ref (C "HallError"))=some true
 z1_NoLine_NoLine:kitOne K (.ref (C "NoLine")) (.ref (C "NoLine"))=some true
 z1_NoName_HallError:kitOne K (.ref (C "NoName")) (.ref (C "HallError"))=some true
 z1_NoName_NoName:kitOne K (.ref (C "NoName")) (.ref (C "NoName"))=some true
 z1_NoNumber_HallError:kitOne K (.ref (C "NoNumber")) (.ref (C "HallError"))=some true
 z1_NoNumber_NoNumber:kitOne K (.ref (C "NoNumber")) (.ref (C "NoNumber"))=some true
 z1_NoTicket_HallError:kitOne K (.ref (C "NoTicket")) (.ref (C "HallError"))=some true
 z1_NoTicket_NoTicket:kitOne K (.ref (C "NoTicket")) (.ref (C "NoTicket"))=some true
 z1_NotBegun_HallError:kitOne K (.ref (C "NotBegun")) (.ref (C "HallError"))=some true
 z1_NotBegun_NotBegun:kitOne K (.ref (C "NotBegun")) (.ref (C "NotBegun"))=some true
 z1_NotKept_HallError:kitOne K (.ref (C "NotKept")) (.ref (C "HallError"))=some true
 z1_NotKept_NotKept:kitOne K (.ref (C "NotKept")) (.ref (C "NotKept"))=some true
 z1_Taken_HallError:kitOne K (.ref (C "Taken")) (.ref (C "HallError"))=some true
 z1_Taken_Taken:kitOne K (.ref (C "Taken")) (.ref (C "Taken"))=some true
 z1_TooMany_HallError:kitOne K (.ref (C "TooMany")) (.ref (C "HallError"))=some true
 z1_TooMany_TooMany:kitOne K (.ref (C "TooMany")) (.ref (C "TooMany"))=some true
section
variable {P:Program}{w:World}{K:PySem.W.Frag}{mg:Str->Option Value}{base:Heap}{C:Str->Addr}
theorem uh:FnScope ["thing"] ["thing"] (ze wm):=⟨rfl,rfl,rfl,by decide +kernel,rfl,by decide +kernel,by decide +kernel⟩
theorem JR {f:Addr}{fd:FuncData}(T:Txt K mg C)(F:Fun K "is_whole" "is_whole" wm f fd):FnOk P w K mg base CX0 1 f fd ["thing"] (pSp ⟨K,w⟩ 1 (len? 1 (mir ["thing"] xC))):=by
 have sc:=uh
 refine zD (k:=0) F uh (λcdv A outer s H E B hr=>?_)
 exact (zh (zw (yB (yU (kitT "int" (by decide)) (by rfl) T.b_isinstance (by rfl) T.b_int (by decide +kernel) (zb 0)) (yT (Qr (yU (kitT "bool" (by decide)) (by rfl) T.b_isinstance (by rfl) T.b_bool (by decide +kernel) (zb 0)))))))
theorem kA:FnScope xh ["thing","low","high"] (ze w9):=⟨rfl,rfl,rfl,by decide +kernel,rfl,by decide +kernel,by decide +kernel⟩
theorem JU {f:Addr}{fd:FuncData}(T:Txt K mg C)(F:Fun K "is_number" "is_number" w9 f fd) (Haj:Fx P w K mg base "is_whole" 1 1 zX):FnOk P w K mg base CX0 2 f fd ["thing","low","high"] (pSp ⟨K,w⟩ 3 (len? 3 (mir xh xN))):=by
 have sc:=kA
 refine zD (k:=1) F kA (λcdv A outer s H E B hr=>?_)
 exact (zh (zw (yB (zo Haj (hr.mono (by decide)) (by rfl) (zc (zk 0) zj)) (yT (Yp wy wy wL wL (zb 1) (zb 0) (zb 2))))))
theorem kP:FnScope ["thing"] ["thing"] (ze xr):=⟨rfl,rfl,rfl,by decide +kernel,rfl,by decide +kernel,by decide +kernel⟩
theorem VU {f:Addr}{fd:FuncData}(T:Txt K mg C)(F:Fun K "is_name" "is_name" xr f fd):FnOk P w K mg base CX0 1 f fd ["thing"] (pSp ⟨K,w⟩ 1 (len? 1 (mir ["thing"] xg))):=by
 obtain⟨tok_FIGURES,t_FIGURES⟩:=T.c_FIGURES'
 obtain⟨tok_LETTERS,t_LETTERS⟩:=T.c_LETTERS'
 obtain⟨tok_MOST_SIGNS,t_MOST_SIGNS⟩:=T.c_MOST_SIGNS'
 have sc:=kP
 refine zD (k:=0) F kP (λcdv A outer s H E B hr=>?_)
 exact (zi (z8 (zZ (zY (zA (z7 (DE.read (yU (kitT "str" (by decide)) (by rfl) T.b_isinstance (by rfl) T.b_str (by decide +kernel) (zb 0))) (by intro _;rfl))) (yg (zA (vT wy wy wL wL de_int.read (DE.read (yx (by rfl) T.b_len (zE (zb 0) zF))) (DE.read (yz (v:=.int 8) (by rfl) t_MOST_SIGNS (by exact⟨_,rfl⟩) (by intro _;rfl)))))))) (zh (zw z9)) zC) (zh (zw (yB (yt qX ok_in (DE.read (zH (zb 0) de_int.read (by intro _ _;rfl))) (DE.read (yz (v:=.str "abcdefghijklmnopqrstuvwxyz") (by rfl) t_LETTERS (by exact⟨_,rfl⟩) (by intro _;rfl))) (by rfl)) (yT (jr (by rfl) (by rfl) T.b_all (zE (DA.read (yD (own:=["sign"]) (cap:=[]) (t:=(.name 0)) (by rfl) (y0 (sc:=(ze xr).names) (N:=["thing"]) (by rfl) (by rfl) (by rfl) (by decide +kernel)) (Z6 (zb 0)) (by decide) (λB' C' s₀ H₀ fp pn=>⟨(zB (i:=0) (show List.Nodup (["sign"]:List Str) from by decide +kernel) (by rfl) (locl (by rfl))),yC,(yt qX ok_in (zb 0) (DE.read (zL (DE.read (yz (v:=.str "abcdefghijklmnopqrstuvwxyz") (by rfl) t_LETTERS (by exact⟨_,rfl⟩) (by intro _;rfl))) (DE.read (yz (v:=.str "0123456789") (by rfl) t_FIGURES (by exact⟨_,rfl⟩) (by intro _;rfl))))) (by rfl))⟩))) zF)))))))
theorem Yq:FnScope ["thing"] ["thing"] (ze xV):=⟨rfl,rfl,rfl,by decide +kernel,rfl,by decide +kernel,by decide +kernel⟩
theorem Wl {f:Addr}{fd:FuncData}(T:Txt K mg C)(F:Fun K "is_row" "is_row" xV f fd) (Hah:Fx P w K mg base "is_number" 2 3 z6):FnOk P w K mg base CX0 3 f fd ["thing"] (pSp ⟨K,w⟩ 1 (len? 1 (mir ["thing"] xA))):=by
 obtain⟨tok_MOST_COUNTERS,t_MOST_COUNTERS⟩:=T.c_MOST_COUNTERS'
 obtain⟨tok_MOST_TURNS,t_MOST_TURNS⟩:=T.c_MOST_TURNS'
 have sc:=Yq
 refine zD (k:=2) F Yq (λcdv A outer s H E B hr=>?_)
 exact (zi (z8 (zZ (zY (zA (z7 (DE.read (yU (kitT "tuple" (by decide)) (by rfl) T.b_isinstance (by rfl) T.b_tuple (by decide +kernel) (zb 0))) (by intro _;rfl))) (yg (zO (vm hr.units) zR (DE.read (yx (by rfl) T.b_len (zE (zb 0) zF))) de_int.read (nomark _))))) (zh (zw z9)) zC) (zh (zw (yB (zo Hah (hr.mono (by decide)) (by rfl) (zc (zg (zH (zb 0) de_int.read (by intro _ _;rfl))) (zc (zg de_int) (zc (zg (yz (v:=.int 100) (by rfl) t_MOST_TURNS (by exact⟨_,rfl⟩) (by intro _;rfl))) zj)))) (yT (zo Hah (hr.mono (by decide)) (by rfl) (zc (zg (zH (zb 0) de_int.read (by intro _ _;rfl))) (zc (zg de_int) (zc (zg (yz (v:=.int 8) (by rfl) t_MOST_COUNTERS (by exact⟨_,rfl⟩) (by intro _;rfl))) zj)))))))))
theorem ja:FnScope yw ["rows","rest"] (ze y6):=⟨rfl,rfl,rfl,by decide +kernel,rfl,by decide +kernel,by decide +kernel⟩
theorem Q9 {f:Addr}{fd:FuncData}(T:Txt K mg C)(F:Fun K "check_hours" "check_hours" y6 f fd) (Hah:Fx P w K mg base "is_number" 2 3 z6) (Hai:Fx P w K mg base "is_row" 3 1 zN):FnOk P w K mg base CX0 4 f fd ["rows","rest"] (pSp ⟨K,w⟩ 2 (len? 2 (mir yw jJ))):=by
 obtain⟨tok_MOST_COUNTERS,t_MOST_COUNTERS⟩:=T.c_MOST_COUNTERS'
 obtain⟨tok_MOST_ROWS,t_MOST_ROWS⟩:=T.c_MOST_ROWS'
 have sc:=ja
 refine zD (k:=3) F ja (λcdv A outer s H E B hr=>?_)
 exact (zi (z8 (zZ (zY (zA (z7 (DE.read (yU (kitT "list" (by decide)) (by rfl) T.b_isinstance (by rfl) T.b_list (by decide +kernel) (zb 0))) (by intro _;rfl))) (yg (zO wI wZ (DE.read (yx (by rfl) T.b_len (zE (zb 0) zF))) (DE.read (yz (v:=.int 16) (by rfl) t_MOST_ROWS (by exact⟨_,rfl⟩) (by intro _;rfl))) (nomark _))))) (zh vD) zC) (zi (z8 (zA (z7 (DE.read (jr (by rfl) (by rfl) T.b_all (zE (DA.read (yD (own:=["row"]) (cap:=[]) (t:=(.name 0)) (by rfl) (y0 (sc:=(ze y6).names) (N:=yw) (by rfl) (by rfl) (by rfl) (by decide +kernel)) (y2 hb1 (DR.cur (zb 0))) (by decide) (λB' C' s₀ H₀ fp pn=>⟨(zB (i:=0) (show List.Nodup (["row"]:List Str) from by decide +kernel) (by rfl) (locl (by rfl))),yC,(zo Hai (hr.mono (by decide)) (by rfl) (zc (zk 0) zj))⟩))) zF))) (by intro _;rfl))) (zh vD) zC) (zh (z8 (zA (z7 (DE.read (zo Hah (hr.mono (by decide)) (by rfl) (zc (zk 1) (zc (zg de_int) (zc (zg (yz (v:=.int 8) (by rfl) t_MOST_COUNTERS (by exact⟨_,rfl⟩) (by intro _;rfl))) zj))))) (by intro _;rfl))) (zh vD) zC))))
theorem Y2 {f:Addr}{fd:FuncData}(T:Txt K mg C)(F:Fun K "check_hours" "check_hours" y6 f fd) (U:Exs P w K mg base C) (Hai:Fx P w K mg base "is_row" 3 1 zN) (Hah:Fx P w K mg base "is_number" 2 3 z6):FnOk P w K mg base (CX1 P w) 4 f fd ["rows","rest"] (ySp ⟨K,w⟩ C "name" 2 (mirY ["rows","rest"] 2 wc)):=by
 obtain⟨tok_MOST_COUNTERS,t_MOST_COUNTERS⟩:=T.c_MOST_COUNTERS'
 obtain⟨tok_MOST_ROWS,t_MOST_ROWS⟩:=T.c_MOST_ROWS'
 have sc:=ja
 refine ZG (k:=3) F ja (λcdv A outer s H E B pn hr=>?_)
 exact (kB (qi (zZ (zY (zA (z7 (DE.read (yU (kitT "list" (by decide)) (by rfl) T.b_isinstance (by rfl) T.b_list (by decide +kernel) (zb 0))) (by intro _;rfl))) (yg (zO wI wZ (DE.read (yx (by rfl) T.b_len (zE (zb 0) zF))) (DE.read (yz (v:=.int 16) (by rfl) t_MOST_ROWS (by exact⟨_,rfl⟩) (by intro _;rfl))) (nomark _))))) (qu (nm := "NoHours") rfl rfl U.x_NoHours (by rfl) U.m_NoHours zK) qC) (kx (z8 (zZ (zY (zA (z7 (DE.read (yU (kitT "list" (by decide)) (by rfl) T.b_isinstance (by rfl) T.b_list (by decide +kernel) (zb 0))) (by intro _;rfl))) (yg (zO wI wZ (DE.read (yx (by rfl) T.b_len (zE (zb 0) zF))) (DE.read (yz (v:=.int 16) (by rfl) t_MOST_ROWS (by exact⟨_,rfl⟩) (by intro _;rfl))) (nomark _))))) (zh vD) zC) (kB (qi (zA (z7 (DE.read (jr (by rfl) (by rfl) T.b_all (zE (DA.read (yD (own:=["row"]) (cap:=[]) (t:=(.name 0)) (by rfl) (y0 (sc:=(ze y6).names) (N:=yw) (by rfl) (by rfl) (by rfl) (by decide +kernel)) (y2 hb1 (DR.cur (zb 0))) (by decide) (λB' C' s₀ H₀ fp pn=>⟨(zB (i:=0) (show List.Nodup (["row"]:List Str) from by decide +kernel) (by rfl) (locl (by rfl))),yC,(zo Hai (hr.mono (by decide)) (by rfl) (zc (zk 0) zj))⟩))) zF))) (by intro _;rfl))) (qu (nm := "NoHours") rfl rfl U.x_NoHours (by rfl) U.m_NoHours zK) qC) (kx (z8 (zA (z7 (DE.read (jr (by rfl) (by rfl) T.b_all (zE (DA.read (yD (own:=["row"]) (cap:=[]) (t:=(.name 0)) (by rfl) (y0 (sc:=(ze y6).names) (N:=yw) (by rfl) (by rfl) (by rfl) (by decide +kernel)) (y2 hb1 (DR.cur (zb 0))) (by decide) (λB' C' s₀ H₀ fp pn=>⟨(zB (i:=0) (show List.Nodup (["row"]:List Str) from by decide +kernel) (by rfl) (locl (by rfl))),yC,(zo Hai (hr.mono (by decide)) (by rfl) (zc (zk 0) zj))⟩))) zF))) (by intro _;rfl))) (zh vD) zC) (qi (zA (z7 (DE.read (zo Hah (hr.mono (by decide)) (by rfl) (zc (zk 1) (zc (zg de_int) (zc (zg (yz (v:=.int 8) (by rfl) t_MOST_COUNTERS (by exact⟨_,rfl⟩) (by intro _;rfl))) zj))))) (by intro _;rfl))) (qu (nm := "NoHours") rfl rfl U.x_NoHours (by rfl) U.m_NoHours zK) qC)))))
theorem ZN:FnScope jw ["rows","rest"] (ze wb):=⟨rfl,rfl,rfl,by decide +kernel,rfl,by decide +kernel,by decide +kernel⟩
theorem YF {f:Addr}{fd:FuncData}(T:Txt K mg C)(F:Fun K "kept_rows" "kept_rows" wb f fd):FnOk P w K mg base CX0 1 f fd ["rows","rest"] (pSp ⟨K,w⟩ 2 (len? 2 (mir jw qe))):=by
 have sc:=ZN
 refine zD (k:=0) F ZN (λcdv A outer s H E B hr=>?_)
 exact (zi (jP (i:=2) sc.nd (by rfl) (locl (by rfl)) (zM zt)) (zi (xb (t:=(.tup [3,4])) PassesOwn.never (by rfl) (y2 hb0 (jZ 0 (pv 0))) (we (by rfl) (yk (zB (i:=3) sc.nd (by rfl) (locl (by rfl))) (yk (zB (i:=4) sc.nd (by rfl) (locl (by rfl))) xX))) (zh (z8 (zZ (Yf (z7 (zb 2) (by intro _;rfl)) (kW (zO (yi hr.units) zR (DE.read (zH (DE.read (zH (zb 2) (DE.read (xW de_int.read)) (by intro _ _;rfl))) de_int.read (by intro _ _;rfl))) (zb 4) (nomark _))))) (zh (KC 2 (pv 2) (xW de_int.read) (zS (zd (zL (DE.read (zH (DE.read (zH (zb 2) (DE.read (xW de_int.read)) (by intro _ _;rfl))) de_int.read (by intro _ _;rfl))) (zb 3)) (zd (zl 4) zt))))) (zh (z8 (zO wI wZ (zb 3) de_int.read (nomark _)) (zh (vR 2 (pv 2) (zS (zd (zl 3) (zd (zl 4) zt))))) zC))))) (zi (z8 (zZ (Yf (z7 (zb 2) (by intro _;rfl)) (kW (zO (yi hr.units) zR (DE.read (zH (DE.read (zH (zb 2) (DE.read (xW de_int.read)) (by intro _ _;rfl))) de_int.read (by intro _ _;rfl))) (zb 1) (nomark _))))) (zh (Wp 2 QP (pv 2))) zC) (zh (jy 2 (pv 2))))))
theorem Zg:FnScope jd ["rows"] (ze wH):=⟨rfl,rfl,rfl,by decide +kernel,rfl,by decide +kernel,by decide +kernel⟩
theorem JD {f:Addr}{fd:FuncData}(T:Txt K mg C)(F:Fun K "spans_of" "spans_of" wH f fd):FnOk P w K mg base CX0 1 f fd ["rows"] (pSp ⟨K,w⟩ 1 (len? 1 (mir jd qI))):=by
 have sc:=Zg
 refine zD (k:=0) F Zg (λcdv A outer s H E B hr=>?_)
 exact (zi (jP (i:=1) sc.nd (by rfl) (locl (by rfl)) (zM zt)) (zi (zv (i:=2) sc.nd (by rfl) (locl (by rfl)) de_int) (zi (xb (t:=(.tup [3,4])) PassesOwn.never (by rfl) (y2 hb0 (jZ 0 (pv 0))) (we (by rfl) (yk (zB (i:=3) sc.nd (by rfl) (locl (by rfl))) (yk (zB (i:=4) sc.nd (by rfl) (locl (by rfl))) xX))) (zi (vR 1 (pv 1) (zS (zd (zl 2) (zd (zL (zb 2) (zb 3)) (zd (zl 4) zt))))) (zh (zv (i:=2) sc.nd (by rfl) (locl (by rfl)) (zL (zb 2) (zb 3)))))) (zh (jy 1 (pv 1))))))
theorem vP:FnScope wQ ["self","rows","rest"] (ze xy):=⟨rfl,rfl,rfl,by decide +kernel,rfl,by decide +kernel,by decide +kernel⟩
theorem Qq {f:Addr}{fd:FuncData}(T:Txt K mg C)(F:Fun K "__init__" "Hours.__init__" xy f fd) (Hay:Fx P w K mg base "spans_of" 1 1 vA) (Hak:Fx P w K mg base "kept_rows" 1 2 vC) (Haf:Fx P w K mg base "check_hours" 4 2 vy):FnOk P w K mg base CX0 5 f fd ["self","rows","rest"] (iSp ⟨K,w⟩ (C "Hours") 2 (mirI (C "Hours") ["self","rows","rest"] (v7 C))):=by
 have sc:=vP
 refine Vp (k:=4) F vP rfl (λcdv A outer s H E B hr=>?_)
 exact (zi (Ke (zo Haf (hr.mono (by decide)) (by rfl) (zc (zk 1) (zc (zk 2) zj)))) (zi (kj 0 T.cl_Hours T.n_Hours_kept_rest (pv 0) (zl 2)) (zh (kj 0 T.cl_Hours T.n_Hours_spans (pv 0) (zo Hay (hr.mono (by decide)) (by rfl) (zc (zg (zo Hak (hr.mono (by decide)) (by rfl) (zc (zk 1) (zc (zk 2) zj)))) zj))))))
theorem K7 {f:Addr}{fd:FuncData}(T:Txt K mg C)(F:Fun K "__init__" "Hours.__init__" xy f fd) (U:Exs P w K mg base C) (Ha0:Ry P w K mg base C "name" "check_hours" 4 2 yA):FnOk P w K mg base (CX1 P w) 5 f fd ["self","rows","rest"] (ySp ⟨K,w⟩ C "name" 3 (mirY ["self","rows","rest"] 3 ZY)):=by
 have sc:=vP
 refine ZG (k:=4) F vP (λcdv A outer s H E B pn hr=>?_)
 exact (kF (JH Yd Ha0 ZF (hr.mono (by decide)) (by rfl) (zc (zk 1) (zc (zk 2) zj))))
theorem Zr:FnScope ["self"] ["self"] (ze xD):=⟨rfl,rfl,rfl,by decide +kernel,rfl,by decide +kernel,by decide +kernel⟩
theorem YA {f:Addr}{fd:FuncData}(T:Txt K mg C)(F:Fun K "rows" "Hours.rows" xD f fd):FnOk P w K mg base CX0 1 f fd ["self"] (pSp ⟨K,w⟩ 1 (len? 1 (mir ["self"] (Yg C)))):=by
 have sc:=Zr
 refine zD (k:=0) F Zr (λcdv A outer s H E B hr=>?_)
 exact (zh (kN (yD (own:=["start","stop","counters"]) (cap:=[]) (t:=(.tup [0,1,2])) (by rfl) (y0 (sc:=(ze xD).names) (N:=["self"]) (by rfl) (by rfl) (by rfl) (by decide +kernel)) (y2 hb1 (DR.cur (DE.read (yH T.cl_Hours T.n_Hours_spans (zl 0))))) (by decide) (λB' C' s₀ H₀ fp pn=>⟨(we (by rfl) (yk (zB (i:=0) (show List.Nodup (["start","stop","counters"]:List Str) from by decide +kernel) (by rfl) (locl (by rfl))) (yk (zB (i:=1) (show List.Nodup (["start","stop","counters"]:List Str) from by decide +kernel) (by rfl) (locl (by rfl))) (yk (zB (i:=2) (show List.Nodup (["start","stop","counters"]:List Str) from by decide +kernel) (by rfl) (locl (by rfl))) xX)))),yC,(zS (zd (xB (zb 1) (zb 0)) (zd (zl 2) zt)))⟩))))
theorem Yo:FnScope ["self"] ["self"] (ze wt):=⟨rfl,rfl,rfl,by decide +kernel,rfl,by decide +kernel,by decide +kernel⟩
theorem KB {f:Addr}{fd:FuncData}(T:Txt K mg C)(F:Fun K "rest" "Hours.rest" wt f fd):FnOk P w K mg base CX0 1 f fd ["self"] (pSp ⟨K,w⟩ 1 (len? 1 (mir ["self"] (qG C)))):=by
 have sc:=Yo
 refine zD (k:=0) F Yo (λcdv A outer s H E B hr=>?_)
 exact (zh (zw (yH T.cl_Hours T.n_Hours_kept_rest (zl 0))))
theorem Zl:FnScope ["self"] ["self"] (ze wV):=⟨rfl,rfl,rfl,by decide +kernel,rfl,by decide +kernel,by decide +kernel⟩
theorem Kq {f:Addr}{fd:FuncData}(T:Txt K mg C)(F:Fun K "end" "Hours.end" wV f fd):FnOk P w K mg base CX0 1 f fd ["self"] (pSp ⟨K,w⟩ 1 (len? 1 (mir ["self"] (jT C)))):=by
 have sc:=Zl
 refine zD (k:=0) F Zl (λcdv A outer s H E B hr=>?_)
 exact (zh (zw (Zj (z7 (DE.read (yH T.cl_Hours T.n_Hours_spans (zl 0))) (by intro _;rfl)) (zH (DE.read (zH (DE.read (yH T.cl_Hours T.n_Hours_spans (zl 0))) (DE.read (xW de_int.read)) (by intro _ _;rfl))) de_int.read (by intro _ _;rfl)) de_int)))
theorem Yy:FnScope vW ["self","turn"] (ze wq):=⟨rfl,rfl,rfl,by decide +kernel,rfl,by decide +kernel,by decide +kernel⟩
theorem WL {f:Addr}{fd:FuncData}(T:Txt K mg C)(F:Fun K "at" "Hours.at" wq f fd):FnOk P w K mg base CX0 1 f fd ["self","turn"] (pSp ⟨K,w⟩ 2 (len? 2 (mir vW (qO C)))):=by
 have sc:=Yy
 refine zD (k:=0) F Yy (λcdv A outer s H E B hr=>?_)
 exact (zi (zv (i:=2) sc.nd (by rfl) (locl (by rfl)) de_int) (zi (zv (i:=3) sc.nd (by rfl) (locl (by rfl)) (yx (by rfl) T.b_len (zE (DE.read (yH T.cl_Hours T.n_Hours_spans (zl 0))) zF))) (zi (Wj PassesOwn.never (zO wR xU (zb 2) (zb 3) (nomark _)) (zi (zv (i:=4) sc.nd (by rfl) (locl (by rfl)) (yJ (DE.read (zL (zb 2) (zb 3))) de_int.read)) (zh (z8 (zO wR xU (zb 1) (DE.read (zH (DE.read (zH (DE.read (yH T.cl_Hours T.n_Hours_spans (zl 0))) (zb 4) (by intro _ _;rfl))) de_int.read (by intro _ _;rfl))) (nomark _)) (zh (zv (i:=3) sc.nd (by rfl) (locl (by rfl)) (zl 4))) (zh (zv (i:=2) sc.nd (by rfl) (locl (by rfl)) (zL (zb 4) de_int.read))))))) (zh (zw (Zj (zO wR xU (zb 2) (DE.read (yx (by rfl) T.b_len (zE (DE.read (yH T.cl_Hours T.n_Hours_spans (zl 0))) zF))) (nomark _)) (zH (DE.read (zH (DE.read (yH T.cl_Hours T.n_Hours_spans (zl 0))) (zb 2) (by intro _ _;rfl))) de_int.read (by intro _ _;rfl)) (yH T.cl_Hours T.n_Hours_kept_rest (zl 0))))))))
theorem ZU:FnScope vt ["_law_script","_law_k"] (ze wY):=⟨rfl,rfl,rfl,by decide +kernel,rfl,by decide +kernel,by decide +kernel⟩
theorem Vs {f:Addr}{fd:FuncData}(T:Txt K mg C)(F:Fun K "_law_cell" "_law_cell" wY f fd):FnOk P w K mg base CX0 1 f fd ["_law_script","_law_k"] (pSp ⟨K,w⟩ 2 (len? 2 (mir vt vU))):=by
 have sc:=ZU
 refine zD (k:=0) F ZU (λcdv A outer s H E B hr=>?_)
 exact (zi (z8 (zO wR xU (zb 1) (DE.read (yx (by rfl) T.b_len (zE (zb 0) zF))) (nomark _)) (zh (zw (zH (zb 0) (zb 1) (by intro _ _;rfl)))) zC) (zh (zw de_int)))
theorem uw:FnScope vX ["_law_cell_here","_law_k"] (ze wj):=⟨rfl,rfl,rfl,by decide +kernel,rfl,by decide +kernel,by decide +kernel⟩
theorem Wx {f:Addr}{fd:FuncData}(T:Txt K mg C)(F:Fun K "_law_stir" "_law_stir" wj f fd):FnOk P w K mg base CX0 1 f fd ["_law_cell_here","_law_k"] (pSp ⟨K,w⟩ 2 (len? 2 (mir vX jY))):=by
 have sc:=uw
 refine zD (k:=0) F uw (λcdv A outer s H E B hr=>?_)
 exact (zi (zv (i:=2) sc.nd (by rfl) (locl (by rfl)) (zV (DE.read (zL (DE.read (zL (DE.read (xp (DE.read (zV (zb 0) de_int.read)) de_int.read)) (DE.read (xp de_int.read (zb 1))))) de_int.read)) de_int.read)) (zi (zv (i:=2) sc.nd (by rfl) (locl (by rfl)) (zV (DE.read (xp (zb 2) (zb 2))) de_int.read)) (zh (zw (zV (DE.read (zL (DE.read (zL (DE.read (xp (zb 2) (zb 2))) (DE.read (xp de_int.read (zb 2))))) de_int.read)) de_int.read)))))
theorem u0:FnScope jb ["_law_script","_law_at","_law_base","_law_count"] (ze wB):=⟨rfl,rfl,rfl,by decide +kernel,rfl,by decide +kernel,by decide +kernel⟩
theorem WK {f:Addr}{fd:FuncData}(T:Txt K mg C)(F:Fun K "_law_row" "_law_row" wB f fd) (Ham:Fx P w K mg base "_law_cell" 1 2 zy) (Hau:Fx P w K mg base "_law_stir" 1 2 vw):FnOk P w K mg base CX0 2 f fd ["_law_script","_law_at","_law_base","_law_count"] (pSp ⟨K,w⟩ 4 (len? 4 (mir jb jD))):=by
 have sc:=u0
 refine zD (k:=1) F u0 (λcdv A outer s H E B hr=>?_)
 exact (zi (zv (i:=4) sc.nd (by rfl) (locl (by rfl)) (zo Ham (hr.mono (by decide)) (by rfl) (zc (zk 0) (zc (zk 1) zj)))) (zi (jP (i:=5) sc.nd (by rfl) (locl (by rfl)) (zM zt)) (zi (xb (t:=(.name 6)) PassesOwn.never (by rfl) (vM (by rfl) T.b_range (zE (zb 3) zF)) (zB (i:=6) sc.nd (by rfl) (locl (by rfl))) (zh (z8 (zO (yi hr.units) zR (DE.read (V3 (DE.read (Ua (DE.read (zo Ham (hr.mono (by decide)) (by rfl) (zc (zk 0) (zc (zg de_int) zj)))) (DE.read (zV (zb 1) de_int.read)))) de_int.read)) de_int.read (nomark _)) (zi (vR 5 (pv 5) (zV (zb 4) (zb 2))) (zh (zv (i:=4) sc.nd (by rfl) (locl (by rfl)) (yJ (zb 4) (zb 2))))) (zh (vR 5 (pv 5) (zV (DE.read (yJ (DE.read (zo Hau (hr.mono (by decide)) (by rfl) (zc (zk 4) (zc (zk 6) zj)))) de_int.read)) (zb 2))))))) (zh (jy 5 (pv 5))))))
theorem Z9:FnScope jl ["_law_e"] (ze wu):=⟨rfl,rfl,rfl,by decide +kernel,rfl,by decide +kernel,by decide +kernel⟩
theorem KR {f:Addr}{fd:FuncData}(T:Txt K mg C)(F:Fun K "_law_kinds" "_law_kinds" wu f fd) (U:Exs P w K mg base C):FnOk P w K mg base CX0 1 f fd ["_law_e"] (pSp ⟨K,w⟩ 1 (len? 1 (mir jl (jS C)))):=by
 have sc:=Z9
 refine zD (k:=0) F Z9 (λcdv A outer s H E B hr=>?_)
 exact (zi (zv (i:=1) sc.nd (by rfl) (locl (by rfl)) (DA.frz (zM (zd (yb (tab:=[(C "Doubled",false),(C "Taken",false),(C "NoTicket",false),(C "NotBegun",false),(C "NoBooking",false),(C "NotKept",false),(C "NoCounter",false),(C "TooMany",false),(C "NoName",true),(C "NoNumber",false),(C "NoHours",false),(C "NoLine",false),(C "NoBreak",false)]) (all_cons ⟨U.is_Doubled,U.z0_Doubled_NoName⟩ (all_cons ⟨U.is_Taken,U.z0_Taken_NoName⟩ (all_cons ⟨U.is_NoTicket,U.z0_NoTicket_NoName⟩ (all_cons ⟨U.is_NotBegun,U.z0_NotBegun_NoName⟩ (all_cons ⟨U.is_NoBooking,U.z0_NoBooking_NoName⟩ (all_cons ⟨U.is_NotKept,U.z0_NotKept_NoName⟩ (all_cons ⟨U.is_NoCounter,U.z0_NoCounter_NoName⟩ (all_cons ⟨U.is_TooMany,U.z0_TooMany_NoName⟩ (all_cons ⟨U.is_NoName,U.z1_NoName_NoName⟩ (all_cons ⟨U.is_NoNumber,U.z0_NoNumber_NoName⟩ (all_cons ⟨U.is_NoHours,U.z0_NoHours_NoName⟩ (all_cons ⟨U.is_NoLine,U.z0_NoLine_NoName⟩ (all_cons ⟨U.is_NoBreak,U.z0_NoBreak_NoName⟩ zP))))))))))))) (by rfl) T.b_isinstance (by rfl) U.m_NoName (zl 0)) (zd (yb (tab:=[(C "Doubled",false),(C "Taken",false),(C "NoTicket",false),(C "NotBegun",false),(C "NoBooking",false),(C "NotKept",false),(C "NoCounter",false),(C "TooMany",false),(C "NoName",false),(C "NoNumber",true),(C "NoHours",false),(C "NoLine",false),(C "NoBreak",false)]) (all_cons ⟨U.is_Doubled,U.z0_Doubled_NoNumber⟩ (all_cons ⟨U.is_Taken,U.z0_Taken_NoNumber⟩ (all_cons ⟨U.is_NoTicket,U.z0_NoTicket_NoNumber⟩ (all_cons ⟨U.is_NotBegun,U.z0_NotBegun_NoNumber⟩ (all_cons ⟨U.is_NoBooking,U.z0_NoBooking_NoNumber⟩ (all_cons ⟨U.is_NotKept,U.z0_NotKept_NoNumber⟩ (all_cons ⟨U.is_NoCounter,U.z0_NoCounter_NoNumber⟩ (all_cons ⟨U.is_TooMany,U.z0_TooMany_NoNumber⟩ (all_cons ⟨U.is_NoName,U.z0_NoName_NoNumber⟩ (all_cons ⟨U.is_NoNumber,U.z1_NoNumber_NoNumber⟩ (all_cons ⟨U.is_NoHours,U.z0_NoHours_NoNumber⟩ (all_cons ⟨U.is_NoLine,U.z0_NoLine_NoNumber⟩ (all_cons ⟨U.is_NoBreak,U.z0_NoBreak_NoNumber⟩ zP))))))))))))) (by rfl) T.b_isinstance (by rfl) U.m_NoNumber (zl 0)) (zd (yb (tab:=[(C "Doubled",false),(C "Taken",false),(C "NoTicket",false),(C "NotBegun",false),(C "NoBooking",false),(C "NotKept",false),(C "NoCounter",false),(C "TooMany",false),(C "NoName",false),(C "NoNumber",false),(C "NoHours",true),(C "NoLine",false),(C "NoBreak",false)]) (all_cons ⟨U.is_Doubled,U.z0_Doubled_NoHours⟩ (all_cons ⟨U.is_Taken,U.z0_Taken_NoHours⟩ (all_cons ⟨U.is_NoTicket,U.z0_NoTicket_NoHours⟩ (all_cons ⟨U.is_NotBegun,U.z0_NotBegun_NoHours⟩ (all_cons ⟨U.is_NoBooking,U.z0_NoBooking_NoHours⟩ (all_cons ⟨U.is_NotKept,U.z0_NotKept_NoHours⟩ (all_cons ⟨U.is_NoCounter,U.z0_NoCounter_NoHours⟩ (all_cons ⟨U.is_TooMany,U.z0_TooMany_NoHours⟩ (all_cons ⟨U.is_NoName,U.z0_NoName_NoHours⟩ (all_cons ⟨U.is_NoNumber,U.z0_NoNumber_NoHours⟩ (all_cons ⟨U.is_NoHours,U.z1_NoHours_NoHours⟩ (all_cons ⟨U.is_NoLine,U.z0_NoLine_NoHours⟩ (all_cons ⟨U.is_NoBreak,U.z0_NoBreak_NoHours⟩ zP))))))))))))) (by rfl) T.b_isinstance (by rfl) U.m_NoHours (zl 0)) (zd (yb (tab:=[(C "Doubled",false),(C "Taken",false),(C "NoTicket",false),(C "NotBegun",false),(C "NoBooking",false),(C "NotKept",false),(C "NoCounter",false),(C "TooMany",false),(C "NoName",false),(C "NoNumber",false),(C "NoHours",false),(C "NoLine",true),(C "NoBreak",false)]) (all_cons ⟨U.is_Doubled,U.z0_Doubled_NoLine⟩ (all_cons ⟨U.is_Taken,U.z0_Taken_NoLine⟩ (all_cons ⟨U.is_NoTicket,U.z0_NoTicket_NoLine⟩ (all_cons ⟨U.is_NotBegun,U.z0_NotBegun_NoLine⟩ (all_cons ⟨U.is_NoBooking,U.z0_NoBooking_NoLine⟩ (all_cons ⟨U.is_NotKept,U.z0_NotKept_NoLine⟩ (all_cons ⟨U.is_NoCounter,U.z0_NoCounter_NoLine⟩ (all_cons ⟨U.is_TooMany,U.z0_TooMany_NoLine⟩ (all_cons ⟨U.is_NoName,U.z0_NoName_NoLine⟩ (all_cons ⟨U.is_NoNumber,U.z0_NoNumber_NoLine⟩ (all_cons ⟨U.is_NoHours,U.z0_NoHours_NoLine⟩ (all_cons ⟨U.is_NoLine,U.z1_NoLine_NoLine⟩ (all_cons ⟨U.is_NoBreak,U.z0_NoBreak_NoLine⟩ zP))))))))))))) (by rfl) T.b_isinstance (by rfl) U.m_NoLine (zl 0)) zt))))))) (zi (zv (i:=1) sc.nd (by rfl) (locl (by rfl)) (DA.frz (xK (zb 1) (DA.read (zM (zd (yb (tab:=[(C "Doubled",false),(C "Taken",false),(C "NoTicket",false),(C "NotBegun",false),(C "NoBooking",false),(C "NotKept",false),(C "NoCounter",false),(C "TooMany",true),(C "NoName",false),(C "NoNumber",false),(C "NoHours",false),(C "NoLine",false),(C "NoBreak",false)]) (all_cons ⟨U.is_Doubled,U.z0_Doubled_TooMany⟩ (all_cons ⟨U.is_Taken,U.z0_Taken_TooMany⟩ (all_cons ⟨U.is_NoTicket,U.z0_NoTicket_TooMany⟩ (all_cons ⟨U.is_NotBegun,U.z0_NotBegun_TooMany⟩ (all_cons ⟨U.is_NoBooking,U.z0_NoBooking_TooMany⟩ (all_cons ⟨U.is_NotKept,U.z0_NotKept_TooMany⟩ (all_cons ⟨U.is_NoCounter,U.z0_NoCounter_TooMany⟩ (all_cons ⟨U.is_TooMany,U.z1_TooMany_TooMany⟩ (all_cons ⟨U.is_NoName,U.z0_NoName_TooMany⟩ (all_cons ⟨U.is_NoNumber,U.z0_NoNumber_TooMany⟩ (all_cons ⟨U.is_NoHours,U.z0_NoHours_TooMany⟩ (all_cons ⟨U.is_NoLine,U.z0_NoLine_TooMany⟩ (all_cons ⟨U.is_NoBreak,U.z0_NoBreak_TooMany⟩ zP))))))))))))) (by rfl) T.b_isinstance (by rfl) U.m_TooMany (zl 0)) (zd (yb (tab:=[(C "Doubled",true),(C "Taken",false),(C "NoTicket",false),(C "NotBegun",false),(C "NoBooking",false),(C "NotKept",false),(C "NoCounter",false),(C "TooMany",false),(C "NoName",false),(C "NoNumber",false),(C "NoHours",false),(C "NoLine",false),(C "NoBreak",false)]) (all_cons ⟨U.is_Doubled,U.z1_Doubled_Doubled⟩ (all_cons ⟨U.is_Taken,U.z0_Taken_Doubled⟩ (all_cons ⟨U.is_NoTicket,U.z0_NoTicket_Doubled⟩ (all_cons ⟨U.is_NotBegun,U.z0_NotBegun_Doubled⟩ (all_cons ⟨U.is_NoBooking,U.z0_NoBooking_Doubled⟩ (all_cons ⟨U.is_NotKept,U.z0_NotKept_Doubled⟩ (all_cons ⟨U.is_NoCounter,U.z0_NoCounter_Doubled⟩ (all_cons ⟨U.is_TooMany,U.z0_TooMany_Doubled⟩ (all_cons ⟨U.is_NoName,U.z0_NoName_Doubled⟩ (all_cons ⟨U.is_NoNumber,U.z0_NoNumber_Doubled⟩ (all_cons ⟨U.is_NoHours,U.z0_NoHours_Doubled⟩ (all_cons ⟨U.is_NoLine,U.z0_NoLine_Doubled⟩ (all_cons ⟨U.is_NoBreak,U.z0_NoBreak_Doubled⟩ zP))))))))))))) (by rfl) T.b_isinstance (by rfl) U.m_Doubled (zl 0)) (zd (yb (tab:=[(C "Doubled",false),(C "Taken",true),(C "NoTicket",false),(C "NotBegun",false),(C "NoBooking",false),(C "NotKept",false),(C "NoCounter",false),(C "TooMany",false),(C "NoName",false),(C "NoNumber",false),(C "NoHours",false),(C "NoLine",false),(C "NoBreak",false)]) (all_cons ⟨U.is_Doubled,U.z0_Doubled_Taken⟩ (all_cons ⟨U.is_Taken,U.z1_Taken_Taken⟩ (all_cons ⟨U.is_NoTicket,U.z0_NoTicket_Taken⟩ (all_cons ⟨U.is_NotBegun,U.z0_NotBegun_Taken⟩ (all_cons ⟨U.is_NoBooking,U.z0_NoBooking_Taken⟩ (all_cons ⟨U.is_NotKept,U.z0_NotKept_Taken⟩ (all_cons ⟨U.is_NoCounter,U.z0_NoCounter_Taken⟩ (all_cons ⟨U.is_TooMany,U.z0_TooMany_Taken⟩ (all_cons ⟨U.is_NoName,U.z0_NoName_Taken⟩ (all_cons ⟨U.is_NoNumber,U.z0_NoNumber_Taken⟩ (all_cons ⟨U.is_NoHours,U.z0_NoHours_Taken⟩ (all_cons ⟨U.is_NoLine,U.z0_NoLine_Taken⟩ (all_cons ⟨U.is_NoBreak,U.z0_NoBreak_Taken⟩ zP))))))))))))) (by rfl) T.b_isinstance (by rfl) U.m_Taken (zl 0)) (zd (yb (tab:=[(C "Doubled",false),(C "Taken",false),(C "NoTicket",true),(C "NotBegun",false),(C "NoBooking",false),(C "NotKept",false),(C "NoCounter",false),(C "TooMany",false),(C "NoName",false),(C "NoNumber",false),(C "NoHours",false),(C "NoLine",false),(C "NoBreak",false)]) (all_cons ⟨U.is_Doubled,U.z0_Doubled_NoTicket⟩ (all_cons ⟨U.is_Taken,U.z0_Taken_NoTicket⟩ (all_cons ⟨U.is_NoTicket,U.z1_NoTicket_NoTicket⟩ (all_cons ⟨U.is_NotBegun,U.z0_NotBegun_NoTicket⟩ (all_cons ⟨U.is_NoBooking,U.z0_NoBooking_NoTicket⟩ (all_cons ⟨U.is_NotKept,U.z0_NotKept_NoTicket⟩ (all_cons ⟨U.is_NoCounter,U.z0_NoCounter_NoTicket⟩ (all_cons ⟨U.is_TooMany,U.z0_TooMany_NoTicket⟩ (all_cons ⟨U.is_NoName,U.z0_NoName_NoTicket⟩ (all_cons ⟨U.is_NoNumber,U.z0_NoNumber_NoTicket⟩ (all_cons ⟨U.is_NoHours,U.z0_NoHours_NoTicket⟩ (all_cons ⟨U.is_NoLine,U.z0_NoLine_NoTicket⟩ (all_cons ⟨U.is_NoBreak,U.z0_NoBreak_NoTicket⟩ zP))))))))))))) (by rfl) T.b_isinstance (by rfl) U.m_NoTicket (zl 0)) zt))))))))) (zi (zv (i:=1) sc.nd (by rfl) (locl (by rfl)) (DA.frz (xK (zb 1) (DA.read (zM (zd (yb (tab:=[(C "Doubled",false),(C "Taken",false),(C "NoTicket",false),(C "NotBegun",true),(C "NoBooking",false),(C "NotKept",false),(C "NoCounter",false),(C "TooMany",false),(C "NoName",false),(C "NoNumber",false),(C "NoHours",false),(C "NoLine",false),(C "NoBreak",false)]) (all_cons ⟨U.is_Doubled,U.z0_Doubled_NotBegun⟩ (all_cons ⟨U.is_Taken,U.z0_Taken_NotBegun⟩ (all_cons ⟨U.is_NoTicket,U.z0_NoTicket_NotBegun⟩ (all_cons ⟨U.is_NotBegun,U.z1_NotBegun_NotBegun⟩ (all_cons ⟨U.is_NoBooking,U.z0_NoBooking_NotBegun⟩ (all_cons ⟨U.is_NotKept,U.z0_NotKept_NotBegun⟩ (all_cons ⟨U.is_NoCounter,U.z0_NoCounter_NotBegun⟩ (all_cons ⟨U.is_TooMany,U.z0_TooMany_NotBegun⟩ (all_cons ⟨U.is_NoName,U.z0_NoName_NotBegun⟩ (all_cons ⟨U.is_NoNumber,U.z0_NoNumber_NotBegun⟩ (all_cons ⟨U.is_NoHours,U.z0_NoHours_NotBegun⟩ (all_cons ⟨U.is_NoLine,U.z0_NoLine_NotBegun⟩ (all_cons ⟨U.is_NoBreak,U.z0_NoBreak_NotBegun⟩ zP))))))))))))) (by rfl) T.b_isinstance (by rfl) U.m_NotBegun (zl 0)) (zd (yb (tab:=[(C "Doubled",false),(C "Taken",false),(C "NoTicket",false),(C "NotBegun",false),(C "NoBooking",true),(C "NotKept",false),(C "NoCounter",false),(C "TooMany",false),(C "NoName",false),(C "NoNumber",false),(C "NoHours",false),(C "NoLine",false),(C "NoBreak",false)]) (all_cons ⟨U.is_Doubled,U.z0_Doubled_NoBooking⟩ (all_cons ⟨U.is_Taken,U.z0_Taken_NoBooking⟩ (all_cons ⟨U.is_NoTicket,U.z0_NoTicket_NoBooking⟩ (all_cons ⟨U.is_NotBegun,U.z0_NotBegun_NoBooking⟩ (all_cons ⟨U.is_NoBooking,U.z1_NoBooking_NoBooking⟩ (all_cons ⟨U.is_NotKept,U.z0_NotKept_NoBooking⟩ (all_cons ⟨U.is_NoCounter,U.z0_NoCounter_NoBooking⟩ (all_cons ⟨U.is_TooMany,U.z0_TooMany_NoBooking⟩ (all_cons ⟨U.is_NoName,U.z0_NoName_NoBooking⟩ (all_cons ⟨U.is_NoNumber,U.z0_NoNumber_NoBooking⟩ (all_cons ⟨U.is_NoHours,U.z0_NoHours_NoBooking⟩ (all_cons ⟨U.is_NoLine,U.z0_NoLine_NoBooking⟩ (all_cons ⟨U.is_NoBreak,U.z0_NoBreak_NoBooking⟩ zP))))))))))))) (by rfl) T.b_isinstance (by rfl) U.m_NoBooking (zl 0)) (zd (yb (tab:=[(C "Doubled",false),(C "Taken",false),(C "NoTicket",false),(C "NotBegun",false),(C "NoBooking",false),(C "NotKept",true),(C "NoCounter",false),(C "TooMany",false),(C "NoName",false),(C "NoNumber",false),(C "NoHours",false),(C "NoLine",false),(C "NoBreak",false)]) (all_cons ⟨U.is_Doubled,U.z0_Doubled_NotKept⟩ (all_cons ⟨U.is_Taken,U.z0_Taken_NotKept⟩ (all_cons ⟨U.is_NoTicket,U.z0_NoTicket_NotKept⟩ (all_cons ⟨U.is_NotBegun,U.z0_NotBegun_NotKept⟩ (all_cons ⟨U.is_NoBooking,U.z0_NoBooking_NotKept⟩ (all_cons ⟨U.is_NotKept,U.z1_NotKept_NotKept⟩ (all_cons ⟨U.is_NoCounter,U.z0_NoCounter_NotKept⟩ (all_cons ⟨U.is_TooMany,U.z0_TooMany_NotKept⟩ (all_cons ⟨U.is_NoName,U.z0_NoName_NotKept⟩ (all_cons ⟨U.is_NoNumber,U.z0_NoNumber_NotKept⟩ (all_cons ⟨U.is_NoHours,U.z0_NoHours_NotKept⟩ (all_cons ⟨U.is_NoLine,U.z0_NoLine_NotKept⟩ (all_cons ⟨U.is_NoBreak,U.z0_NoBreak_NotKept⟩ zP))))))))))))) (by rfl) T.b_isinstance (by rfl) U.m_NotKept (zl 0)) zt)))))))) (zi (zv (i:=1) sc.nd (by rfl) (locl (by rfl)) (DA.frz (xK (zb 1) (DA.read (zM (zd (yb (tab:=[(C "Doubled",false),(C "Taken",false),(C "NoTicket",false),(C "NotBegun",false),(C "NoBooking",false),(C "NotKept",false),(C "NoCounter",false),(C "TooMany",false),(C "NoName",false),(C "NoNumber",false),(C "NoHours",false),(C "NoLine",false),(C "NoBreak",true)]) (all_cons ⟨U.is_Doubled,U.z0_Doubled_NoBreak⟩ (all_cons ⟨U.is_Taken,U.z0_Taken_NoBreak⟩ (all_cons ⟨U.is_NoTicket,U.z0_NoTicket_NoBreak⟩ (all_cons ⟨U.is_NotBegun,U.z0_NotBegun_NoBreak⟩ (all_cons ⟨U.is_NoBooking,U.z0_NoBooking_NoBreak⟩ (all_cons ⟨U.is_NotKept,U.z0_NotKept_NoBreak⟩ (all_cons ⟨U.is_NoCounter,U.z0_NoCounter_NoBreak⟩ (all_cons ⟨U.is_TooMany,U.z0_TooMany_NoBreak⟩ (all_cons ⟨U.is_NoName,U.z0_NoName_NoBreak⟩ (all_cons ⟨U.is_NoNumber,U.z0_NoNumber_NoBreak⟩ (all_cons ⟨U.is_NoHours,U.z0_NoHours_NoBreak⟩ (all_cons ⟨U.is_NoLine,U.z0_NoLine_NoBreak⟩ (all_cons ⟨U.is_NoBreak,U.z1_NoBreak_NoBreak⟩ zP))))))))))))) (by rfl) T.b_isinstance (by rfl) U.m_NoBreak (zl 0)) (zd (yb (tab:=[(C "Doubled",false),(C "Taken",false),(C "NoTicket",false),(C "NotBegun",false),(C "NoBooking",false),(C "NotKept",false),(C "NoCounter",true),(C "TooMany",false),(C "NoName",false),(C "NoNumber",false),(C "NoHours",false),(C "NoLine",false),(C "NoBreak",false)]) (all_cons ⟨U.is_Doubled,U.z0_Doubled_NoCounter⟩ (all_cons ⟨U.is_Taken,U.z0_Taken_NoCounter⟩ (all_cons ⟨U.is_NoTicket,U.z0_NoTicket_NoCounter⟩ (all_cons ⟨U.is_NotBegun,U.z0_NotBegun_NoCounter⟩ (all_cons ⟨U.is_NoBooking,U.z0_NoBooking_NoCounter⟩ (all_cons ⟨U.is_NotKept,U.z0_NotKept_NoCounter⟩ (all_cons ⟨U.is_NoCounter,U.z1_NoCounter_NoCounter⟩ (all_cons ⟨U.is_TooMany,U.z0_TooMany_NoCounter⟩ (all_cons ⟨U.is_NoName,U.z0_NoName_NoCounter⟩ (all_cons ⟨U.is_NoNumber,U.z0_NoNumber_NoCounter⟩ (all_cons ⟨U.is_NoHours,U.z0_NoHours_NoCounter⟩ (all_cons ⟨U.is_NoLine,U.z0_NoLine_NoCounter⟩ (all_cons ⟨U.is_NoBreak,U.z0_NoBreak_NoCounter⟩ zP))))))))))))) (by rfl) T.b_isinstance (by rfl) U.m_NoCounter (zl 0)) zt))))))) (zh (kN (xK (zb 1) (DA.read (zM (zd (yb (tab:=[(C "Doubled",true),(C "Taken",true),(C "NoTicket",true),(C "NotBegun",true),(C "NoBooking",true),(C "NotKept",true),(C "NoCounter",true),(C "TooMany",true),(C "NoName",true),(C "NoNumber",true),(C "NoHours",true),(C "NoLine",true),(C "NoBreak",true)]) (all_cons ⟨U.is_Doubled,U.z1_Doubled_HallError⟩ (all_cons ⟨U.is_Taken,U.z1_Taken_HallError⟩ (all_cons ⟨U.is_NoTicket,U.z1_NoTicket_HallError⟩ (all_cons ⟨U.is_NotBegun,U.z1_NotBegun_HallError⟩ (all_cons ⟨U.is_NoBooking,U.z1_NoBooking_HallError⟩ (all_cons ⟨U.is_NotKept,U.z1_NotKept_HallError⟩ (all_cons ⟨U.is_NoCounter,U.z1_NoCounter_HallError⟩ (all_cons ⟨U.is_TooMany,U.z1_TooMany_HallError⟩ (all_cons ⟨U.is_NoName,U.z1_NoName_HallError⟩ (all_cons ⟨U.is_NoNumber,U.z1_NoNumber_HallError⟩ (all_cons ⟨U.is_NoHours,U.z1_NoHours_HallError⟩ (all_cons ⟨U.is_NoLine,U.z1_NoLine_HallError⟩ (all_cons ⟨U.is_NoBreak,U.z1_NoBreak_HallError⟩ zP))))))))))))) (by rfl) T.b_isinstance (by rfl) U.m_HallError (zl 0)) (zd (V0 (tab:=[(C "Doubled",true),(C "Taken",true),(C "NoTicket",true),(C "NotBegun",true),(C "NoBooking",true),(C "NotKept",true),(C "NoCounter",true),(C "TooMany",true),(C "NoName",true),(C "NoNumber",true),(C "NoHours",true),(C "NoLine",true),(C "NoBreak",true)]) (T := "ValueError") (all_cons ⟨U.is_Doubled,U.t1_Doubled_ValueError⟩ (all_cons ⟨U.is_Taken,U.t1_Taken_ValueError⟩ (all_cons ⟨U.is_NoTicket,U.t1_NoTicket_ValueError⟩ (all_cons ⟨U.is_NotBegun,U.t1_NotBegun_ValueError⟩ (all_cons ⟨U.is_NoBooking,U.t1_NoBooking_ValueError⟩ (all_cons ⟨U.is_NotKept,U.t1_NotKept_ValueError⟩ (all_cons ⟨U.is_NoCounter,U.t1_NoCounter_ValueError⟩ (all_cons ⟨U.is_TooMany,U.t1_TooMany_ValueError⟩ (all_cons ⟨U.is_NoName,U.t1_NoName_ValueError⟩ (all_cons ⟨U.is_NoNumber,U.t1_NoNumber_ValueError⟩ (all_cons ⟨U.is_NoHours,U.t1_NoHours_ValueError⟩ (all_cons ⟨U.is_NoLine,U.t1_NoLine_ValueError⟩ (all_cons ⟨U.is_NoBreak,U.t1_NoBreak_ValueError⟩ zP))))))))))))) (by rfl) T.b_isinstance (by rfl) T.b_ValueError (by decide +kernel) (zl 0)) zt)))))))))))
theorem Z8:FnScope vi ["_law_e","_law_at"] (ze xR):=⟨rfl,rfl,rfl,by decide +kernel,rfl,by decide +kernel,by decide +kernel⟩
theorem V7 {f:Addr}{fd:FuncData}(T:Txt K mg C)(F:Fun K "_law_own" "_law_own" xR f fd) (Hap:Fx P w K mg base "_law_kinds" 1 1 (y9 C)):FnOk P w K mg base CX0 2 f fd ["_law_e","_law_at"] (pSp ⟨K,w⟩ 2 (len? 2 (mir vi (qK C)))):=by
 have sc:=Z8
 refine zD (k:=1) F Z8 (λcdv A outer s H E B hr=>?_)
 exact (zh (zw (yt (yi hr.units) zR (DA.read (vz Hap (hr.mono (by decide)) (by rfl) (zc (zk 0) zj))) (DA.read (xK (DA.read (yD (own:=["_law_k"]) (cap:=[("_law_at",1)]) (t:=(.name 0)) (by rfl) (y0 (sc:=(ze xR).names) (N:=vi) (by rfl) (by rfl) (by rfl) (by decide +kernel)) (vM (by rfl) T.b_range (zE de_int.read zF)) (by decide) (λB' C' s₀ H₀ fp pn=>⟨(zB (i:=0) (show List.Nodup (["_law_k","_law_at"]:List Str) from by decide +kernel) (by rfl) (locl (by rfl))),yC,(yt (yi hr.units) zR (zb 0) (zb 1) (nomark _))⟩))) (DA.read (zM (zd z9 (zd z9 zt)))))) (nomark _))))
theorem Z0:FnScope jR ["_law_name","_law_one","_law_other"] (ze wX):=⟨rfl,rfl,rfl,by decide +kernel,rfl,by decide +kernel,by decide +kernel⟩
theorem Qi {f:Addr}{fd:FuncData}(T:Txt K mg C)(F:Fun K "_law_errors" "_law_errors" wX f fd) (U:Exs P w K mg base C) (Har:Fx P w K mg base "_law_own" 2 2 (zJ C)):FnOk P w K mg base CX0 3 f fd ["_law_name","_law_one","_law_other"] (pSp ⟨K,w⟩ 3 (len? 3 (mir jR (vZ C)))):=by
 obtain⟨fI_Doubled,xc_Doubled,f0_Doubled,ps_Doubled,FI_Doubled,bI_Doubled⟩:=U.i_Doubled
 obtain⟨fI_NoBooking,xc_NoBooking,f0_NoBooking,ps_NoBooking,FI_NoBooking,bI_NoBooking⟩:=U.i_NoBooking
 obtain⟨fI_NoBreak,xc_NoBreak,xd_NoBreak,f0_NoBreak,ps_NoBreak,FI_NoBreak,bI_NoBreak⟩:=U.j_NoBreak
 obtain⟨fI_NoCounter,xc_NoCounter,f0_NoCounter,ps_NoCounter,FI_NoCounter,bI_NoCounter⟩:=U.i_NoCounter
 obtain⟨fI_NoTicket,xc_NoTicket,f0_NoTicket,ps_NoTicket,FI_NoTicket,bI_NoTicket⟩:=U.i_NoTicket
 obtain⟨fI_NotBegun,xc_NotBegun,f0_NotBegun,ps_NotBegun,FI_NotBegun,bI_NotBegun⟩:=U.i_NotBegun
 obtain⟨fI_NotKept,xc_NotKept,f0_NotKept,ps_NotKept,FI_NotKept,bI_NotKept⟩:=U.i_NotKept
 obtain⟨fI_Taken,xc_Taken,f0_Taken,ps_Taken,FI_Taken,bI_Taken⟩:=U.i_Taken
 have sc:=Z0
 refine zD (k:=2) F Z0 (λcdv A outer s H E B hr=>?_)
 exact (zi (xb (t:=(.tup [3,4])) PassesOwn.never (by rfl) (uK hb0 (by rfl) T.b_enumerate (uA hb0 (DE.fix (DA.frz (zM (zd (vq U.x_NoName (by rfl) U.m_NoName zK) (zd (vq U.x_NoNumber (by rfl) U.m_NoNumber zK) (zd (vq U.x_NoHours (by rfl) U.m_NoHours zK) (zd (vq U.x_NoLine (by rfl) U.m_NoLine zK) (zd (vq U.x_TooMany (by rfl) U.m_TooMany zK) zt (zp rfl)) (zp rfl)) (zp rfl)) (zp rfl)) (zp rfl))))) kS)) (we (by rfl) (yk (zB (i:=3) sc.nd (by rfl) (locl (by rfl))) (yk (zB (i:=4) sc.nd (by rfl) (locl (by rfl))) xX))) (zh (z8 (zA (z7 (DE.read (zo Har (hr.mono (by decide)) (by rfl) (zc (zk 4) (zc (zk 3) zj)))) (by intro _;rfl))) (zh (zw z9)) zC))) (zi (xb (t:=(.tup [3,4])) PassesOwn.never (by rfl) (uK hb0 (by rfl) T.b_enumerate (uA hb0 (DE.fix (DA.frz (zM (zd (xO xc_Doubled FI_Doubled (hr.mono (by decide)) bI_Doubled (by rfl) U.m_Doubled (zl 0)) (zd (xO xc_Taken FI_Taken (hr.mono (by decide)) bI_Taken (by rfl) U.m_Taken (zl 0)) (zd (xO xc_NoTicket FI_NoTicket (hr.mono (by decide)) bI_NoTicket (by rfl) U.m_NoTicket (zl 0)) (zd (xO xc_NotBegun FI_NotBegun (hr.mono (by decide)) bI_NotBegun (by rfl) U.m_NotBegun (zl 0)) (zd (xO xc_NoBooking FI_NoBooking (hr.mono (by decide)) bI_NoBooking (by rfl) U.m_NoBooking (zl 0)) (zd (xO xc_NotKept FI_NotKept (hr.mono (by decide)) bI_NotKept (by rfl) U.m_NotKept (zl 0)) zt (zp rfl)) (zp rfl)) (zp rfl)) (zp rfl)) (zp rfl)) (zp rfl))))) kS)) (we (by rfl) (yk (zB (i:=3) sc.nd (by rfl) (locl (by rfl))) (yk (zB (i:=4) sc.nd (by rfl) (locl (by rfl))) xX))) (zh (z8 (zZ (zY (zA (z7 (DE.read (zo Har (hr.mono (by decide)) (by rfl) (zc (zk 4) (zc (zg (zL de_int.read (zb 3))) zj)))) (by intro _;rfl))) (yg (zO (vm hr.units) zR (DE.read (vV (cls:=[C "Doubled",C "Taken",C "NoTicket",C "NotBegun",C "NoBooking",C "NotKept"]) (all_cons xc_Doubled.xf (all_cons xc_Taken.xf (all_cons xc_NoTicket.xf (all_cons xc_NotBegun.xf (all_cons xc_NoBooking.xf (all_cons xc_NotKept.xf zP)))))) (zl 4))) (zb 0) (nomark _))))) (zh (zw z9)) zC))) (zi (zv (i:=5) sc.nd (by rfl) (locl (by rfl)) (J5 xc_NoBreak FI_NoBreak (hr.mono (by decide)) bI_NoBreak (by rfl) U.m_NoBreak (zl 1) (zl 2))) (zi (zv (i:=6) sc.nd (by rfl) (locl (by rfl)) (xO xc_NoCounter FI_NoCounter (hr.mono (by decide)) bI_NoCounter (by rfl) U.m_NoCounter (zl 1))) (zi (z8 (zZ (zY (zA (z7 (DE.read (zo Har (hr.mono (by decide)) (by rfl) (zc (zk 5) (zc (zg de_int) zj)))) (by intro _;rfl))) (zY (zO (vm hr.units) zR (DE.read (vV (cls:=[C "NoBreak"]) (all_cons (show _/\_ from⟨xc_NoBreak.xf,xd_NoBreak.xf⟩).1 zP) (zl 5))) (zb 1) (nomark _)) (yg (zO (vm hr.units) zR (DE.read (vV (cls:=[C "NoBreak"]) (all_cons (show _/\_ from⟨xc_NoBreak.xf,xd_NoBreak.xf⟩).2 zP) (zl 5))) (zb 2) (nomark _)))))) (zh (zw z9)) zC) (zh (zw (yB (zo Har (hr.mono (by decide)) (by rfl) (zc (zk 6) (zc (zg de_int) zj))) (yT (yt (yi hr.units) zR (DE.read (vV (cls:=[C "NoCounter"]) (all_cons xc_NoCounter.xf zP) (zl 6))) (zb 1) (nomark _)))))))))))
theorem ZL:FnScope xE ["_law_script"] (ze yR):=⟨rfl,rfl,rfl,by decide +kernel,rfl,by decide +kernel,by decide +kernel⟩
theorem KO {f:Addr}{fd:FuncData}(T:Txt K mg C)(F:Fun K "_law_text" "_law_text" yR f fd) (Ham:Fx P w K mg base "_law_cell" 1 2 zy) (Hat:Fx P w K mg base "_law_row" 2 4 yn):FnOk P w K mg base CX0 3 f fd ["_law_script"] (pSp ⟨K,w⟩ 1 (len? 1 (mir xE vN))):=by
 have sc:=ZL
 refine zD (k:=2) F ZL (λcdv A outer s H E B hr=>?_)
 exact (zi (zv (i:=1) sc.nd (by rfl) (locl (by rfl)) zK) (zi (zv (i:=2) sc.nd (by rfl) (locl (by rfl)) (zV (DE.read (zo Ham (hr.mono (by decide)) (by rfl) (zc (zk 0) (zc (zg de_int) zj)))) de_int.read)) (zi (zv (i:=3) sc.nd (by rfl) (locl (by rfl)) (Yw (DE.read zK) (zE (DA.read (yD (own:=["_law_place"]) (cap:=[("_law_signs",1)]) (t:=(.name 0)) (by rfl) (y0 (sc:=(ze yR).names) (N:=xE) (by rfl) (by rfl) (by rfl) (by decide +kernel)) (y2 hb1 (DR.cur (DA.read (vz Hat (hr.mono (by decide)) (by rfl) (zc (zk 0) (zc (zg de_int) (zc (zg de_int) (zc (zk 2) zj)))))))) (by decide) (λB' C' s₀ H₀ fp pn=>⟨(zB (i:=0) (show List.Nodup (["_law_place","_law_signs"]:List Str) from by decide +kernel) (by rfl) (locl (by rfl))),yC,(zH (zb 1) (zb 0) (by intro _ _;rfl))⟩))) zF))) (zi (z8 (zO wI wZ (DE.read (zV (DE.read (yJ (DE.read (zo Ham (hr.mono (by decide)) (by rfl) (zc (zk 0) (zc (zg de_int) zj)))) de_int.read)) de_int.read)) de_int.read (nomark _)) (zh (zv (i:=3) sc.nd (by rfl) (locl (by rfl)) (Yw (DE.read zK) (zE (DA.read (yD (own:=["_law_place"]) (cap:=[]) (t:=(.name 0)) (by rfl) (y0 (sc:=(ze yR).names) (N:=xE) (by rfl) (by rfl) (by rfl) (by decide +kernel)) (y2 hb1 (DR.cur (DA.read (vz Hat (hr.mono (by decide)) (by rfl) (zc (zk 0) (zc (zg de_int) (zc (zg de_int) (zc (zk 2) zj)))))))) (by decide) (λB' C' s₀ H₀ fp pn=>⟨(zB (i:=0) (show List.Nodup (["_law_place"]:List Str) from by decide +kernel) (by rfl) (locl (by rfl))),yC,(zH (DE.read zK) (zb 0) (by intro _ _;rfl))⟩))) zF)))) zC) (zh (jy 3 (pv 3)))))))
theorem ki:FnScope yM ["_law_text_here"] (ze xt):=⟨rfl,rfl,rfl,by decide +kernel,rfl,by decide +kernel,by decide +kernel⟩
theorem K8 {f:Addr}{fd:FuncData}(T:Txt K mg C)(F:Fun K "_law_is_name" "_law_is_name" xt f fd):FnOk P w K mg base CX0 1 f fd ["_law_text_here"] (pSp ⟨K,w⟩ 1 (len? 1 (mir yM xo))):=by
 have sc:=ki
 refine zD (k:=0) F ki (λcdv A outer s H E B hr=>?_)
 exact (zi (z8 (zZ (zY (zO (yi hr.units) zR (DE.read (yx (by rfl) T.b_len (zE (zb 0) zF))) de_int.read (nomark _)) (zY (zO wI wZ (DE.read (yx (by rfl) T.b_len (zE (zb 0) zF))) de_int.read (nomark _)) (yg (zA (vT w4 w4 wk wk (DE.read zK) (DE.read (zH (zb 0) de_int.read (by intro _ _;rfl))) (DE.read zK))))))) (zh (zw z9)) zC) (zh (zw (yt (yi hr.units) zR (DE.read (yx (by rfl) T.b_len (zE (DA.read (yD (own:=["_law_sign"]) (cap:=[]) (t:=(.name 0)) (by rfl) (y0 (sc:=(ze xt).names) (N:=yM) (by rfl) (by rfl) (by rfl) (by decide +kernel)) (Z6 (zb 0)) (by decide) (λB' C' s₀ H₀ fp pn=>⟨(zB (i:=0) (show List.Nodup (["_law_sign"]:List Str) from by decide +kernel) (by rfl) (locl (by rfl))),(Qa (zZ (zY (vT w4 w4 wk wk (DE.read zK) (zb 0) (DE.read zK)) (yg (vT w4 w4 wk wk (DE.read zK) (zb 0) (DE.read zK)))))),(zl 0)⟩))) zF))) (DE.read (yx (by rfl) T.b_len (zE (zb 0) zF))) (nomark _)))))
theorem ZH:FnScope jL ["_law_found","_law_due"] (ze wO):=⟨rfl,rfl,rfl,by decide +kernel,rfl,by decide +kernel,by decide +kernel⟩
theorem Qh {f:Addr}{fd:FuncData}(T:Txt K mg C)(F:Fun K "_law_told" "_law_told" wO f fd):FnOk P w K mg base CX0 1 f fd ["_law_found","_law_due"] (pSp ⟨K,w⟩ 2 (len? 2 (mir jL uI))):=by
 have sc:=ZH
 refine zD (k:=0) F ZH (λcdv A outer s H E B hr=>?_)
 exact (zh (zw (yB (yU (kitT "bool" (by decide)) (by rfl) T.b_isinstance (by rfl) T.b_bool (by decide +kernel) (zb 0)) (yT (yt (yi hr.units) zR (zb 0) (zb 1) (nomark _))))))
theorem kG:FnScope jO ["_law_text_here","_law_number"] (ze wx):=⟨rfl,rfl,rfl,by decide +kernel,rfl,by decide +kernel,by decide +kernel⟩
theorem QT {f:Addr}{fd:FuncData}(T:Txt K mg C)(F:Fun K "_law_things" "_law_things" wx f fd) (Hax:Fx P w K mg base "_law_told" 1 2 yc) (Hah:Fx P w K mg base "is_number" 2 3 z6) (Haj:Fx P w K mg base "is_whole" 1 1 zX) (Hag:Fx P w K mg base "is_name" 1 1 yf) (Hao:Fx P w K mg base "_law_is_name" 1 1 yL):FnOk P w K mg base CX0 3 f fd ["_law_text_here","_law_number"] (pSp ⟨K,w⟩ 2 (len? 2 (mir jO vJ))):=by
 have sc:=kG
 refine zD (k:=2) F kG (λcdv A outer s H E B hr=>?_)
 exact (zi (xb (t:=(.name 2)) PassesOwn.never (by rfl) (y2 hb0 (DE.fix (DA.frz (zM (zd vc (zd z9 (zd z9 (zd (DA.frz (zM (zd (zl 0) zt))) (zd (zS (zd (zl 0) zt)) (zd jq (zd (DA.frz (zM zt)) (zd Vu zt (zp rfl)) (zp rfl)) (zp rfl)) (zp rfl)) (zp rfl)) (zp rfl)) (zp rfl)) (zp rfl)))))) (zB (i:=2) sc.nd (by rfl) (locl (by rfl))) (zi (z8 (zZ (zY (zA (z7 (DE.read (zo Hax (hr.mono (by decide)) (by rfl) (zc (zg (zo Hag (hr.mono (by decide)) (by rfl) (zc (zk 2) zj))) (zc (zg z9) zj)))) (by intro _;rfl))) (yg (zA (z7 (DE.read (zo Hax (hr.mono (by decide)) (by rfl) (zc (zg (zo Haj (hr.mono (by decide)) (by rfl) (zc (zk 2) zj))) (zc (zg z9) zj)))) (by intro _;rfl)))))) (zh (zw z9)) zC) (zh (z8 (zA (z7 (DE.read (zo Hax (hr.mono (by decide)) (by rfl) (zc (zg (zo Hah (hr.mono (by decide)) (by rfl) (zc (zk 2) (zc (zg (xW de_int.read)) (zc (zg de_int) zj))))) (zc (zg z9) zj)))) (by intro _;rfl))) (zh (zw z9)) zC)))) (zi (z8 (zZ (zY (zA (z7 (DE.read (zo Hax (hr.mono (by decide)) (by rfl) (zc (zg (zo Hag (hr.mono (by decide)) (by rfl) (zc (zk 0) zj))) (zc (zg (zo Hao (hr.mono (by decide)) (by rfl) (zc (zk 0) zj))) zj)))) (by intro _;rfl))) (yg (zA (z7 (DE.read (zo Hax (hr.mono (by decide)) (by rfl) (zc (zg (zo Hag (hr.mono (by decide)) (by rfl) (zc (zk 1) zj))) (zc (zg z9) zj)))) (by intro _;rfl)))))) (zh (zw z9)) zC) (zi (z8 (zZ (zY (zA (z7 (DE.read (zo Hax (hr.mono (by decide)) (by rfl) (zc (zg (zo Haj (hr.mono (by decide)) (by rfl) (zc (zk 0) zj))) (zc (zg z9) zj)))) (by intro _;rfl))) (yg (zA (z7 (DE.read (zo Hax (hr.mono (by decide)) (by rfl) (zc (zg (zo Haj (hr.mono (by decide)) (by rfl) (zc (zk 1) zj))) (zc (zg z9) zj)))) (by intro _;rfl)))))) (zh (zw z9)) zC) (zi (xb (t:=(.tup [3,4])) PassesOwn.never (by rfl) (y2 hb0 (DE.fix (DA.frz (zM (zd (zS (zd (zl 1) (zd (zl 1) zt))) (zd (zS (zd (xB (zb 1) de_int.read) (zd (zL (zb 1) de_int.read) zt))) (zd (zS (zd (zL (zb 1) de_int.read) (zd (zL (zb 1) de_int.read) zt))) (zd (zS (zd (xB (zb 1) de_int.read) (zd (xB (zb 1) de_int.read) zt))) zt)))))))) (we (by rfl) (yk (zB (i:=3) sc.nd (by rfl) (locl (by rfl))) (yk (zB (i:=4) sc.nd (by rfl) (locl (by rfl))) xX))) (zh (z8 (zA (z7 (DE.read (zo Hax (hr.mono (by decide)) (by rfl) (zc (zg (zo Hah (hr.mono (by decide)) (by rfl) (zc (zk 1) (zc (zk 3) (zc (zk 4) zj))))) (zc (zg (Yp wy wy wL wL (zb 3) (zb 1) (zb 4))) zj)))) (by intro _;rfl))) (zh (zw z9)) zC))) (zh (zw z9))))))
theorem Yb:FnScope j6 ["_law_cell_here","_law_low","_law_high"] (ze w6):=⟨rfl,rfl,rfl,by decide +kernel,rfl,by decide +kernel,by decide +kernel⟩
theorem VQ {f:Addr}{fd:FuncData}(T:Txt K mg C)(F:Fun K "_law_odd" "_law_odd" w6 f fd):FnOk P w K mg base CX0 1 f fd ["_law_cell_here","_law_low","_law_high"] (pSp ⟨K,w⟩ 3 (len? 3 (mir j6 vG))):=by
 have sc:=Yb
 refine zD (k:=0) F Yb (λcdv A outer s H E B hr=>?_)
 exact (zi (zv (i:=3) sc.nd (by rfl) (locl (by rfl)) (zL (DE.read (ju de_int.read de_int.read)) (DE.read (zV (zb 0) (DE.read (ju de_int.read de_int.read)))))) (zi (zv (i:=4) sc.nd (by rfl) (locl (by rfl)) (DA.frz (zM (zd (xB (zb 1) de_int.read) (zd (zL (zb 2) de_int.read) (zd (xB (zb 1) (zb 3)) (zd (zL (zb 2) (zb 3)) (zd z9 (zd vc (zd zK (zd (DA.frz (zM (zd (zl 1) zt))) (zd (zS (zd (zl 1) zt)) (zd z9 (zd jq zt (zp rfl)) (zp rfl)) (zp rfl)) (zp rfl)) (zp rfl)) (zp rfl)) (zp rfl)) (zp rfl)) (zp rfl)) (zp rfl)) (zp rfl))))) (zh (zw (zH (zb 4) (DE.read (zV (zb 0) de_int.read)) (by intro _ _;rfl))))))
theorem Zn:FnScope wz ["_law_cell_here"] (ze w5):=⟨rfl,rfl,rfl,by decide +kernel,rfl,by decide +kernel,by decide +kernel⟩
theorem JG {f:Addr}{fd:FuncData}(T:Txt K mg C)(F:Fun K "_law_bad_row" "_law_bad_row" w5 f fd) (Haq:Fx P w K mg base "_law_odd" 1 3 yu):FnOk P w K mg base CX0 2 f fd ["_law_cell_here"] (pSp ⟨K,w⟩ 1 (len? 1 (mir wz vj))):=by
 have sc:=Zn
 refine zD (k:=1) F Zn (λcdv A outer s H E B hr=>?_)
 exact (zi (zv (i:=1) sc.nd (by rfl) (locl (by rfl)) (zV (zb 0) de_int.read)) (zi (z8 (zO wR xU (zb 1) de_int.read (nomark _)) (zh (zw (zS (zd (zo Haq (hr.mono (by decide)) (by rfl) (zc (zg (yJ (zb 0) de_int.read)) (zc (zg de_int) (zc (zg de_int) zj)))) (zd de_int zt))))) zC) (zi (z8 (zO wR xU (zb 1) de_int.read (nomark _)) (zh (zw (zS (zd de_int (zd (zo Haq (hr.mono (by decide)) (by rfl) (zc (zg (yJ (zb 0) de_int.read)) (zc (zg de_int) (zc (zg de_int) zj)))) zt))))) zC) (by refine zh ?_;refine zw ?_;(refine zH ?_ ?_ ?_;(refine DA.read ?_;refine zM ?_;refine yV (zp ?_) ?_ ?_;rfl;exact (DA.frz (zM (zd de_int (zd de_int zt))));refine yV (zp ?_) ?_ ?_;rfl;exact (zS (zd de_int zt));refine yV (zp ?_) ?_ ?_;rfl;exact (zS (zd de_int (zd de_int (zd de_int zt))));refine yV (zp ?_) ?_ ?_;rfl;exact de_int;refine yV (zp ?_) ?_ ?_;rfl;exact vc;refine yV (zp ?_) ?_ ?_;rfl;exact zK;refine yV (zp ?_) ?_ ?_;rfl;exact jq;refine yV (zp ?_) ?_ ?_;rfl;exact (zS zt);exact zt);exact (DE.read (zV (DE.read (yJ (zb 0) de_int.read)) de_int.read));(intro _ _;rfl))))))
theorem uN:FnScope qt ["_law_rows","_law_rest"] (ze wF):=⟨rfl,rfl,rfl,by decide +kernel,rfl,by decide +kernel,by decide +kernel⟩
theorem Jw {f:Addr}{fd:FuncData}(T:Txt K mg C)(F:Fun K "_law_refused" "_law_refused" wF f fd) (U:Exs P w K mg base C) (Har:Fx P w K mg base "_law_own" 2 2 (zJ C)) (Haz:RyK P w K mg base C "name" (C "Hours") "Hours" 5 3 xx):FnOk P w K mg base CX0 7 f fd ["_law_rows","_law_rest"] (pSp ⟨K,w⟩ 2 (len? 2 (mir qt (vQ C)))):=by
 have sc:=uN
 refine zD (k:=6) F uN (λcdv A outer s H E B hr=>?_)
 exact (zi (zv (i:=2) sc.nd (by rfl) (by first|exact .inl rfl|exact .inr rfl) vc) (zi (Jn (ca:=C) (fd := "name") (λpn E=>(kF (J3 Yd Haz ZF (V1 λ_ _ _=>rfl) (hr.mono (by decide)) (by rfl) (zc (zk 0) (zc (zk 1) zj))))) sc.nd ⟨rfl,rfl⟩ (by rfl) U.m_HallError (by rfl) (by rfl) (by rfl) (by first|exact .inl rfl|exact .inr rfl) (by first|exact .inl rfl|exact .inr rfl) (all_cons U.y_NoHours_HallError zP)) (zh (zw (yB (yt KN QW (zb 2) (DE.read vc) (nomark _)) (yT (zo Har (hr.mono (by decide)) (by rfl) (zc (zk 2) (zc (zg de_int) zj)))))))))
theorem Zs:FnScope vh ["_law_script"] (ze y3):=⟨rfl,rfl,rfl,by decide +kernel,rfl,by decide +kernel,by decide +kernel⟩
theorem YI {f:Addr}{fd:FuncData}(T:Txt K mg C)(F:Fun K "law" "law" y3 f fd) (Hab:Mx P w K mg base (C "Hours") "at" 1 2 (y4 C)) (Hac:Mx P w K mg base (C "Hours") "end" 1 1 (yG C)) (Had:Mx P w K mg base (C "Hours") "rest" 1 1 (yQ C)) (Has:Fx P w K mg base "_law_refused" 7 2 (yZ C)) (Haq:Fx P w K mg base "_law_odd" 1 3 yu) (Ham:Fx P w K mg base "_law_cell" 1 2 zy) (Hal:Fx P w K mg base "_law_bad_row" 2 1 yK) (Hat:Fx P w K mg base "_law_row" 2 4 yn) (Haw:Fx P w K mg base "_law_things" 3 2 wJ) (Han:Fx P w K mg base "_law_errors" 3 3 (xF C)) (Hav:Fx P w K mg base "_law_text" 3 1 xn) (Haa:Kx P w K mg base (C "Hours") "Hours" 5 2 (y1 C)):FnOk P w K mg base CX0 8 f fd ["_law_script"] (pSp ⟨K,w⟩ 1 (len? 1 (mir vh (vS C)))):=by
 have sc:=Zs
 refine zD (k:=7) F Zs (λcdv A outer s H E B hr=>?_)
 exact (zi (zv (i:=1) sc.nd (by rfl) (locl (by rfl)) (xB (DE.read (zV (DE.read (zo Ham (hr.mono (by decide)) (by rfl) (zc (zk 0) (zc (zg de_int) zj)))) (DE.read (zL (DE.read (xp de_int.read (DE.read (ju de_int.read de_int.read)))) de_int.read)))) (DE.read (ju de_int.read de_int.read)))) (zi (zv (i:=2) sc.nd (by rfl) (locl (by rfl)) (zo Hav (hr.mono (by decide)) (by rfl) (zc (zk 0) zj))) (zi (z8 (zZ (zY (zA (z7 (DE.read (zo Han (hr.mono (by decide)) (by rfl) (zc (zg (zL (DE.read zK) (zb 2))) (zc (zk 1) (zc (zg (yJ (zb 1) de_int.read)) zj))))) (by intro _;rfl))) (yg (zA (z7 (DE.read (zo Haw (hr.mono (by decide)) (by rfl) (zc (zk 2) (zc (zk 1) zj)))) (by intro _;rfl)))))) (zh (zw z9)) zC) (zi (zv (i:=3) sc.nd (by rfl) (locl (by rfl)) (zL de_int.read (DE.read (zV (DE.read (zo Ham (hr.mono (by decide)) (by rfl) (zc (zk 0) (zc (zg de_int) zj)))) de_int.read)))) (zi (zv (i:=4) sc.nd (by rfl) (locl (by rfl)) (DA.frz (vz Hat (hr.mono (by decide)) (by rfl) (zc (zk 0) (zc (zg de_int) (zc (zg de_int) (zc (zk 3) zj))))))) (zi (zv (i:=5) sc.nd (by rfl) (locl (by rfl)) (DA.frz (vz Hat (hr.mono (by decide)) (by rfl) (zc (zk 0) (zc (zg de_int) (zc (zg de_int) (zc (zk 3) zj))))))) (zi (Qw (i:=6) (own:=["_law_k"]) (cap:=[("_law_counters",5),("_law_turns",4)]) (t:=(.name 0)) (by rfl) (y0 (sc:=(ze y3).names) (N:=vh) (by rfl) (by rfl) (by rfl) (by decide +kernel)) (vM (by rfl) T.b_range (zE (zb 3) zF)) (by decide) (λB' C' s₀ H₀ fp pn=>⟨(zB (i:=0) (show List.Nodup (["_law_k","_law_counters","_law_turns"]:List Str) from by decide +kernel) (by rfl) (locl (by rfl))),yC,(zS (zd (zL de_int.read (DE.read (zH (zb 2) (zb 0) (by intro _ _;rfl)))) (zd (zH (zb 1) (zb 0) (by intro _ _;rfl)) zt)))⟩) sc.nd (by rfl) (locl (by rfl))) (zi (zv (i:=7) sc.nd (by rfl) (locl (by rfl)) (zV (DE.read (yJ (DE.read (zo Ham (hr.mono (by decide)) (by rfl) (zc (zk 0) (zc (zg de_int) zj)))) de_int.read)) (DE.read (zL (zb 3) de_int.read)))) (zi (zv (i:=8) sc.nd (by rfl) (locl (by rfl)) (zo Hal (hr.mono (by decide)) (by rfl) (zc (zg (zo Ham (hr.mono (by decide)) (by rfl) (zc (zk 0) (zc (zg de_int) zj)))) zj))) (zi (zv (i:=9) sc.nd (by rfl) (locl (by rfl)) (DA.frz (zM (zd (DA.frz (xK (DA.read (xK (DA.read (Zb (zb 6) Yv (uH (zb 7)))) (DA.read (zM (zd (zl 8) zt))))) (DA.read (Zb (zb 6) (uH (zb 7)) Yv)))) (zd (KL (by rfl) T.b_tuple (zE (zb 6) zF)) (zd vc (zd de_int (zd zK (zd jq (zd (zH (zb 6) de_int.read (by intro _ _;rfl)) (zd (DA.frz (Ji (DA.read (zM (zd (zS (zd de_int (zd de_int zt))) zt))) de_int.read)) zt (zp rfl)) (zp rfl)) (zp rfl)) (zp rfl)) (zp rfl)) (zp rfl)) (zp rfl)) (zp rfl))))) (zi (xb (t:=(.name 10)) PassesOwn.never (by rfl) (y2 hb0 (jZ 9 (pv 9))) (zB (i:=10) sc.nd (by rfl) (locl (by rfl))) (zh (z8 (zA (z7 (DE.read (zo Has (hr.mono (by decide)) (by rfl) (zc (zk 10) (zc (zg de_int) zj)))) (by intro _;rfl))) (zh (zw z9)) zC))) (zi (zv (i:=11) sc.nd (by rfl) (locl (by rfl)) (DA.frz (Ws (by rfl) T.b_list (zE (zb 6) zF)))) (zi (z8 (zZ (zY (zA (z7 (DE.read (zo Has (hr.mono (by decide)) (by rfl) (zc (zk 6) (zc (zg (zo Haq (hr.mono (by decide)) (by rfl) (zc (zg (zo Ham (hr.mono (by decide)) (by rfl) (zc (zk 0) (zc (zg de_int) zj)))) (zc (zg de_int) (zc (zg de_int) zj))))) zj)))) (by intro _;rfl))) (yg (zO (vm hr.units) zR (zb 6) (zb 11) (nomark _))))) (zh (zw z9)) zC) (zi (zv (i:=12) sc.nd (by rfl) (locl (by rfl)) (Ys Haa (hr.mono (by decide)) (by rfl) (zc (zk 6) (zc (zg de_int) zj)))) (zi (zv (i:=13) sc.nd (by rfl) (locl (by rfl)) (Ys Haa (hr.mono (by decide)) (by rfl) (zc (zg (DA.frz (yD (own:=["_law_k"]) (cap:=[]) (t:=(.name 0)) (by rfl) (y0 (sc:=(ze y3).names) (N:=vh) (by rfl) (by rfl) (by rfl) (by decide +kernel)) (vM (by rfl) T.b_range (zE de_int.read zF)) (by decide) (λB' C' s₀ H₀ fp pn=>⟨(zB (i:=0) (show List.Nodup (["_law_k"]:List Str) from by decide +kernel) (by rfl) (locl (by rfl))),yC,(zS (zd de_int (zd (xp de_int.read (DE.read (zV (zb 0) de_int.read))) zt)))⟩)))) (zc (zg de_int) zj)))) (zh (zw (yB (yt (yi hr.units) zR (zb 6) (zb 11) (nomark _)) (yB (yt (yi hr.units) zR (DE.read (ZE (zl 12) T.cl_Hours Had (hr.mono (by decide)))) de_int.read (nomark _)) (yB (yt (yi hr.units) zR (DE.read (ZE (zl 13) T.cl_Hours Hac (hr.mono (by decide)))) de_int.read (nomark _)) (yT (yt (yi hr.units) zR (DE.read (Vv (zl 13) T.cl_Hours Hab (hr.mono (by decide)) (zc (zg de_int) zj))) de_int.read (nomark _)))))))))))))))))))))))
abbrev wM:Stmt:=yr (top 8) 0
theorem Zw:FnScope ["self","name"] ["self","name"] (ze wM):=⟨rfl,rfl,rfl,by decide +kernel,rfl,by decide +kernel,by decide +kernel⟩
theorem Vx {f CT HE:Addr}{fd:FuncData}(F:Fun K "__init__" "Doubled.__init__" wM f fd) (xc:XC K CT HE f "name") (mH:mg "HallError" = some (.ref HE)):FnOk P w K mg base CX0 1 f fd ["self","name"] (xiSp CT "name"):=by
 have sc:=Zw
 refine F.ok (k:=0) Zw (λvs H Q E h=>?_) (λcdv A outer s H vs Q E hr h=>?_)
 ·obtain⟨e,v,t,rfl,_⟩:=h;rfl
 ·refine⟨_,ye (yy (xu xc (by rfl) mH (z5 (pv 0) (z5 (pv 1) zQ)))) (y7 (yY xc (pv 0) (pv 1) (by rfl))),?_⟩
  obtain⟨e,v,t,rfl,he,q⟩:=h
  exact⟨_,rfl,_,rfl,e,v,t,rfl,he,λt'=>⟨_,rfl,_,rfl,e,t',rfl,zm,λdx h1 h2=>xG (t:=t) q t' dx h1 h2⟩⟩
abbrev ve:Stmt:=yr (top 9) 0
theorem ZD:FnScope ["self","name"] ["self","name"] (ze ve):=⟨rfl,rfl,rfl,by decide +kernel,rfl,by decide +kernel,by decide +kernel⟩
theorem KZ {f CT HE:Addr}{fd:FuncData}(F:Fun K "__init__" "Taken.__init__" ve f fd) (xc:XC K CT HE f "name") (mH:mg "HallError" = some (.ref HE)):FnOk P w K mg base CX0 1 f fd ["self","name"] (xiSp CT "name"):=by
 have sc:=ZD
 refine F.ok (k:=0) ZD (λvs H Q E h=>?_) (λcdv A outer s H vs Q E hr h=>?_)
 ·obtain⟨e,v,t,rfl,_⟩:=h;rfl
 ·refine⟨_,ye (yy (xu xc (by rfl) mH (z5 (pv 0) (z5 (pv 1) zQ)))) (y7 (yY xc (pv 0) (pv 1) (by rfl))),?_⟩
  obtain⟨e,v,t,rfl,he,q⟩:=h
  exact⟨_,rfl,_,rfl,e,v,t,rfl,he,λt'=>⟨_,rfl,_,rfl,e,t',rfl,zm,λdx h1 h2=>xG (t:=t) q t' dx h1 h2⟩⟩
abbrev wU:Stmt:=yr (top 10) 0
theorem kq:FnScope ["self","name"] ["self","name"] (ze wU):=⟨rfl,rfl,rfl,by decide +kernel,rfl,by decide +kernel,by decide +kernel⟩
theorem Kt {f CT HE:Addr}{fd:FuncData}(F:Fun K "__init__" "NoTicket.__init__" wU f fd) (xc:XC K CT HE f "name") (mH:mg "HallError" = some (.ref HE)):FnOk P w K mg base CX0 1 f fd ["self","name"] (xiSp CT "name"):=by
 have sc:=kq
 refine F.ok (k:=0) kq (λvs H Q E h=>?_) (λcdv A outer s H vs Q E hr h=>?_)
 ·obtain⟨e,v,t,rfl,_⟩:=h;rfl
 ·refine⟨_,ye (yy (xu xc (by rfl) mH (z5 (pv 0) (z5 (pv 1) zQ)))) (y7 (yY xc (pv 0) (pv 1) (by rfl))),?_⟩
  obtain⟨e,v,t,rfl,he,q⟩:=h
  exact⟨_,rfl,_,rfl,e,v,t,rfl,he,λt'=>⟨_,rfl,_,rfl,e,t',rfl,zm,λdx h1 h2=>xG (t:=t) q t' dx h1 h2⟩⟩
abbrev wg:Stmt:=yr (top 11) 0
theorem Zx:FnScope ["self","name"] ["self","name"] (ze wg):=⟨rfl,rfl,rfl,by decide +kernel,rfl,by decide +kernel,by decide +kernel⟩
theorem Y0 {f CT HE:Addr}{fd:FuncData}(F:Fun K "__init__" "NotBegun.__init__" wg f fd) (xc:XC K CT HE f "name") (mH:mg "HallError" = some (.ref HE)):FnOk P w K mg base CX0 1 f fd ["self","name"] (xiSp CT "name"):=by
 have sc:=Zx
 refine F.ok (k:=0) Zx (λvs H Q E h=>?_) (λcdv A outer s H vs Q E hr h=>?_)
 ·obtain⟨e,v,t,rfl,_⟩:=h;rfl
 ·refine⟨_,ye (yy (xu xc (by rfl) mH (z5 (pv 0) (z5 (pv 1) zQ)))) (y7 (yY xc (pv 0) (pv 1) (by rfl))),?_⟩
  obtain⟨e,v,t,rfl,he,q⟩:=h
  exact⟨_,rfl,_,rfl,e,v,t,rfl,he,λt'=>⟨_,rfl,_,rfl,e,t',rfl,zm,λdx h1 h2=>xG (t:=t) q t' dx h1 h2⟩⟩
abbrev wG:Stmt:=yr (top 12) 0
theorem kr:FnScope ["self","name"] ["self","name"] (ze wG):=⟨rfl,rfl,rfl,by decide +kernel,rfl,by decide +kernel,by decide +kernel⟩
theorem Ku {f CT HE:Addr}{fd:FuncData}(F:Fun K "__init__" "NoBooking.__init__" wG f fd) (xc:XC K CT HE f "name") (mH:mg "HallError" = some (.ref HE)):FnOk P w K mg base CX0 1 f fd ["self","name"] (xiSp CT "name"):=by
 have sc:=kr
 refine F.ok (k:=0) kr (λvs H Q E h=>?_) (λcdv A outer s H vs Q E hr h=>?_)
 ·obtain⟨e,v,t,rfl,_⟩:=h;rfl
 ·refine⟨_,ye (yy (xu xc (by rfl) mH (z5 (pv 0) (z5 (pv 1) zQ)))) (y7 (yY xc (pv 0) (pv 1) (by rfl))),?_⟩
  obtain⟨e,v,t,rfl,he,q⟩:=h
  exact⟨_,rfl,_,rfl,e,v,t,rfl,he,λt'=>⟨_,rfl,_,rfl,e,t',rfl,zm,λdx h1 h2=>xG (t:=t) q t' dx h1 h2⟩⟩
abbrev xY:Stmt:=yr (top 13) 0
theorem Ya:FnScope ["self","name"] ["self","name"] (ze xY):=⟨rfl,rfl,rfl,by decide +kernel,rfl,by decide +kernel,by decide +kernel⟩
theorem Vt {f CT HE:Addr}{fd:FuncData}(F:Fun K "__init__" "NotKept.__init__" xY f fd) (xc:XC K CT HE f "name") (mH:mg "HallError" = some (.ref HE)):FnOk P w K mg base CX0 1 f fd ["self","name"] (xiSp CT "name"):=by
 have sc:=Ya
 refine F.ok (k:=0) Ya (λvs H Q E h=>?_) (λcdv A outer s H vs Q E hr h=>?_)
 ·obtain⟨e,v,t,rfl,_⟩:=h;rfl
 ·refine⟨_,ye (yy (xu xc (by rfl) mH (z5 (pv 0) (z5 (pv 1) zQ)))) (y7 (yY xc (pv 0) (pv 1) (by rfl))),?_⟩
  obtain⟨e,v,t,rfl,he,q⟩:=h
  exact⟨_,rfl,_,rfl,e,v,t,rfl,he,λt'=>⟨_,rfl,_,rfl,e,t',rfl,zm,λdx h1 h2=>xG (t:=t) q t' dx h1 h2⟩⟩
abbrev wd:Stmt:=yr (top 15) 0
theorem qW:FnScope ["self","turn"] ["self","turn"] (ze wd):=⟨rfl,rfl,rfl,by decide +kernel,rfl,by decide +kernel,by decide +kernel⟩
theorem Wg {f CT HE:Addr}{fd:FuncData}(F:Fun K "__init__" "NoCounter.__init__" wd f fd) (xc:XC K CT HE f "turn") (mH:mg "HallError" = some (.ref HE)):FnOk P w K mg base CX0 1 f fd ["self","turn"] (xiSp CT "turn"):=by
 have sc:=qW
 refine F.ok (k:=0) qW (λvs H Q E h=>?_) (λcdv A outer s H vs Q E hr h=>?_)
 ·obtain⟨e,v,t,rfl,_⟩:=h;rfl
 ·refine⟨_,ye (yy (xu xc (by rfl) mH (z5 (pv 0) (z5 (pv 1) zQ)))) (y7 (yY xc (pv 0) (pv 1) (by rfl))),?_⟩
  obtain⟨e,v,t,rfl,he,q⟩:=h
  exact⟨_,rfl,_,rfl,e,v,t,rfl,he,λt'=>⟨_,rfl,_,rfl,e,t',rfl,zm,λdx h1 h2=>xG (t:=t) q t' dx h1 h2⟩⟩
abbrev wK:Stmt:=yr (top 14) 0
theorem ue:FnScope ["self","first","last"] ["self","first","last"] (ze wK):=⟨rfl,rfl,rfl,by decide +kernel,rfl,by decide +kernel,by decide +kernel⟩
theorem KD {f CT HE:Addr}{fd:FuncData}(F:Fun K "__init__" "NoBreak.__init__" wK f fd) (xc:XC K CT HE f "first") (xd:XC K CT HE f "last") (mH:mg "HallError" = some (.ref HE)):FnOk P w K mg base CX0 1 f fd ["self","first","last"] (xiSp2 CT "first" "last"):=by
 have sc:=ue
 refine F.ok (k:=0) ue (λvs H Q E h=>?_) (λcdv A outer s H vs Q E hr h=>?_)
 ·obtain⟨e,v1,v2,t,rfl,_⟩:=h;rfl
 ·refine⟨_,ye (yy (WG xc (by rfl) mH (z5 (pv 0) (z5 (pv 1) (z5 (pv 2) zQ))))) (ye (yY xc (pv 0) (pv 1) (by rfl)) (y7 (V2 (f1 := "first") xd (by decide +kernel) (pv 0) (pv 2) (by rfl)))),?_⟩
  obtain⟨e,v1,v2,t,rfl,he,q⟩:=h
  exact⟨_,rfl,_,rfl,_,rfl,e,v1,v2,t,rfl,he,λt'=>⟨_,rfl,_,rfl,e,t',rfl,zm,λdx h1 h2=>⟨_,rfl,_,rfl,e,t',dx,v1,rfl,by rw[zf (Ne.symm h2)];exact zm,zm,VG (t:=t) q t' dx h1 h2⟩⟩⟩
end
open HM
open QM
def rowD (r:HM.Row):D:=.tup [.int r.1,.int r.2]
def Good (r:HM.Row):Prop:=(1<=r.1/\r.1<=100)/\0<=r.2/\r.2<=8
theorem qm (a:Int):zX [.val (.int a)]=some (.val (.bl true)):=by
 simp[zX,mir,stE,wa,xC]
theorem jh {a lo hi:Int}(h1:lo<=a)(h2:a<=hi):z6 [.val (.int a),.val (.int lo),.val (.int hi)]=some (.val (.bl true)):=by
 simp[z6,mir,stE,xh,xN,qm,h1,h2]
theorem kz {r:HM.Row}(h:Good r):zN [.val (rowD r)]=some (.val (.bl true)):=by
 simp[zN,mir,stE,xZ,xA,rowD,jh h.1.1 h.1.2,jh h.2.1 h.2.2]
theorem Y7 {α:Type}{xs:List α}{n:Nat}(h:xs.length<=n)(hn:n<=TOP):xs.length<=TOP:=Nat.le_trans h hn
theorem t16:16<=TOP:=by decide
theorem kI:∀(rs:List HM.Row),(∀r∈rs,Good r)->compD (.name 0) tYes qU [none] (rs.map rowD)=some (rs.map λ_=>D.bl true)
 | [],_=>by simp
 |r::rs,h=>by
  have h1:=kz (h r (by simp))
  have ih:=kI rs λq hq=>h q (by simp[hq])
  simp only[List.map_cons,xP,Vz,Option.bind_some,Kf,if_true,ih,Option.map_some]
  simp[qU,h1]
theorem Zd {α:Type}:∀(rs:List α),asBs (rs.map λ_=>D.bl true)=some (rs.map λ_=>true)
 | []=>rfl
 |r::rs=>by simp[asBs,Zd rs]
theorem JF {rs:List HM.Row}{rest:Int}(h:∀r∈rs,Good r)(hl:rs.length<=16)(h1:1<=rest)(h2:rest<=8):vy [.val (.lst (rs.map rowD)),.val (.int rest)]=some (.val .non):=by
 have e:=kI rs h
 have e2:=Zd rs
 have e3:=jh h1 h2
 have ht:rs.length<=TOP:=Y7 hl t16
 simp only[vy,mir,stE,yw,jJ]
 have hl':¬((16:Int) < (rs.length:Int)):=by omega
 simp[e,e2,e3,ht,hl,hl']
theorem uB (R:Option En)(rest:D):∀(rs acc:List HM.Row) (x y:Option En),Pos rs->acc.length+rs.length<=1000 ->
  ∃(x' y':Option En),forD (.tup [3,4]) vv (rs.map rowD) [R,some (.val rest),some (.acc (acc.map rowD)),x,y]=some (.next [R,some (.val rest),some (.acc ((rs.foldl kstep acc).map rowD)),x',y'])
 | [],acc,x,y,_,_=>⟨x,y,by simp⟩
 |r::rs,acc,x,y,hp,hl=>by
  simp only[List.length_cons] at hl
  obtain⟨h1,h2⟩:=Pos.cons.mp hp
  have hk:=Z1 acc r
  obtain⟨x',y',e⟩:=uB R rest rs (kstep acc r) (some (.val (.int r.1))) (some (.val (.int r.2))) h2 (by omega)
  refine⟨x',y',?_⟩
  rw[List.foldl_cons,<-e]
  have ht:acc.length<=TOP:=by simp[TOP];omega
  rcases List.eq_nil_or_concat acc with rfl | ⟨pre,q,rfl⟩
  ·simp[vv,rowD,kstep,h1.1,TOP]
  ·rw[List.concat_eq_append] at ht ⊢
   have hk:kstep (pre++[q]) r=if q.2=r.2 then pre++[(q.1+r.1,r.2)] else pre++[q]++[r]:=by
    unfold kstep;rw[List.getLast?_concat];simp only[List.dropLast_concat]
   rw[hk]
   have ea:atI ((pre++[q]).map rowD) (-1)=some (rowD q):=by rw[List.map_append];exact qL
   have en:ixN (pre.length+1) (-1)=some pre.length:=Qk _
   have es:∀d:D,(pre.map rowD++[rowD q]).set pre.length d=pre.map rowD++[d]:=λd=>by
    rw[List.set_append_right _ _ (by simp)];simp
   have ea':atI (pre.map rowD++[rowD q]) (-1)=some (rowD q):=qL
   by_cases c:q.2=r.2
   ·rw[if_pos c]
    simp[vv,ea',en,es,rowD,c,TOP] at ht ⊢
    try simp[rowD] at ea' es
   ·rw[if_neg c]
    simp[vv,ea',rowD,c,TOP,h1.1] at ht ⊢
    simp[rowD] at ea'
    simp[ea',c,ht]
theorem JS {rs:List HM.Row}{rest:Int}(h:Pos rs)(hl:rs.length<=500):vC [.val (.lst (rs.map rowD)),.val (.int rest)]=some (.acc ((krows rest rs).map rowD)):=by
 obtain⟨x',y',e⟩:=uB (some (.val (.lst (rs.map rowD)))) (.int rest) rs [] none none h (by simp;omega)
 simp only[vC,mir,stE,jw,qe]
 simp at e
 simp[e,TOP]
 unfold krows kend
 rcases List.eq_nil_or_concat (rs.foldl kstep []) with h0 | ⟨pre,q,h0⟩
 ·rw[h0];simp
 ·rw[List.concat_eq_append] at h0
  rw[h0]
  have ea':atI (pre.map rowD++[rowD q]) (-1)=some (rowD q):=qL
  by_cases c:q.2=rest
  ·simp[ea',rowD,c]
   try simp[rowD] at ea'
  ·simp[ea',rowD,c]
   try simp[rowD] at ea'
theorem t2':2<=TOP:=by decide
def spanD (p:Int×HM.Row):D:=.tup [.int p.1,.int (p.1+p.2.1),.int p.2.2]
def spans:Int->List HM.Row->List (Int×HM.Row)
 |_,[]=>[]
 |s,r::rs=>(s,r)::spans (s+r.1) rs
theorem kn (R:En):∀(rs:List HM.Row) (s:Int) (acc:List D) (x y:Option En),acc.length+rs.length<=1000 ->
  ∃(s':Int) (x' y':Option En),forD (.tup [3,4]) jF (rs.map rowD) [some R,some (.acc acc),some (.val (.int s)),x,y]=some (.next [some R,some (.acc (acc++(spans s rs).map spanD)),some (.val (.int s')),x',y'])
 | [],s,acc,x,y,_=>⟨s,x,y,by simp[spans]⟩
 |r::rs,s,acc,x,y,hl=>by
  simp only[List.length_cons] at hl
  obtain⟨s',x',y',e⟩:=kn R rs (s+r.1) (acc++[spanD (s,r)]) (some (.val (.int r.1))) (some (.val (.int r.2))) (by simp;omega)
  refine⟨s',x',y',?_⟩
  have ht:acc.length<=TOP:=by simp[TOP];omega
  rw[List.append_assoc] at e
  simp only[spans,List.map_cons]
  rw[show acc++spanD (s,r)::(spans (s+r.1) rs).map spanD=acc++([spanD (s,r)]++(spans (s+r.1) rs).map spanD) from rfl,<-e]
  have t3:3<=TOP:=by decide
  simp[jF,rowD,spanD,ht,t3]
theorem Uc {rs:List HM.Row}(hl:rs.length<=500):vA [.val (.lst (rs.map rowD))]=some (.acc ((spans 0 rs).map spanD)):=by
 obtain⟨s',x',y',e⟩:=kn (.val (.lst (rs.map rowD))) rs 0 [] none none (by simp;omega)
 simp only[vA,mir,stE,jd,qI]
 simp at e
 simp[e]
theorem KM:¬(("spans" : Str) = "kept_rest"):=by decide +kernel
theorem Qp:¬(("kept_rest" : Str) = "spans"):=by decide +kernel
def FS:List Str:=["kept_rest","spans"]
def hoursD (C:Addr)(rest:Int)(ks:List HM.Row):D:=.obj C FS [.int rest,.lst ((spans 0 ks).map spanD)]
theorem ZT {a b:D}:lookZ "kept_rest" FS [a,b]=some a:=by simp[lookZ,FS]
theorem vH {a b:D}:lookZ "spans" FS [a,b]=some b:=by simp[lookZ,FS,KM]
theorem Qs (C:Str->Addr)(a dx:Addr){rs:List HM.Row}{rest:Int}(h:∀r∈rs,Good r)(hl:rs.length<=16)(h1:1<=rest)(h2:rest<=8)(hp:Pos rs) :
  mirI (C "Hours") wQ (v7 C) a dx [.val (.lst (rs.map rowD)),.val (.int rest)]=some (FS,[.int rest,.lst ((spans 0 (krows rest rs)).map spanD)]):=by
 have e1:=JF h hl h1 h2
 have e2:=JS (rest:=rest) hp (by omega)
 have e3:=Uc (rs:=krows rest rs) (Nat.le_trans (Vd rest rs) (by omega))
 simp only[mirI,stE,wQ,v7]
 simp[e1,e2,e3,putZ,Qp,outI,outJ,FS]
theorem Yr (C:Str->Addr){rs:List HM.Row}{rest:Int}(h:∀r∈rs,Good r)(hl:rs.length<=16)(h1:1<=rest)(h2:rest<=8)(hp:Pos rs) :
  y1 C [.val (.lst (rs.map rowD)),.val (.int rest)]=some (FS,[.int rest,.lst ((spans 0 (krows rest rs)).map spanD)]):=Qs C 0 0 h hl h1 h2 hp
theorem JK {g1 g2 g3:EnvD->Option D}{n1 n2:Str}(h1:∀o o' l,g1 (o::l)=g1 (o'::l))(h2:∀o o' l,g2 (o::l)=g2 (o'::l))(h3:∀o o' l,g3 (o::l)=g3 (o'::l))(C a dx:Addr)(l:EnvD) :
  outI a dx C (sSeq (sExpr g1) (sSeq (sFldD 0 C n1 g2) (sFldD 0 C n2 g3)) (some (.oac a dx C [] [])::l))=outI 0 0 C (sSeq (sExpr g1) (sSeq (sFldD 0 C n1 g2) (sFldD 0 C n2 g3)) (some (.oac 0 0 C [] [])::l)):=by
 have e1:=h1 (some (.oac a dx C [] [])) (some (.oac 0 0 C [] [])) l
 have e2:=h2 (some (.oac a dx C [] [])) (some (.oac 0 0 C [] [])) l
 cases q1:g1 (some (.oac 0 0 C [] [])::l) with
 |none=>rw[q1] at e1;simp[e1,q1,outI]
 |some d1=>
  rw[q1] at e1
  cases q2:g2 (some (.oac 0 0 C [] [])::l) with
  |none=>rw[q2] at e2;simp[e1,q1,e2,q2,outI]
  |some d2=>
   rw[q2] at e2
   simp[e1,q1,e2,q2]
   have e3:=h3 (some (.oac a dx C (putZ n1 d2 [] []).1 (putZ n1 d2 [] []).2)) (some (.oac 0 0 C (putZ n1 d2 [] []).1 (putZ n1 d2 [] []).2)) l
   cases q3:g3 (some (.oac 0 0 C (putZ n1 d2 [] []).1 (putZ n1 d2 [] []).2)::l) with
   |none=>rw[q3] at e3;simp[putZ] at e3 q3;simp[e3,q3,outI,putZ]
   |some d3=>rw[q3] at e3;simp[putZ] at e3 q3;simp[e3,q3,outI,outJ,putZ]
theorem VN (C:Str->Addr)(a dx:Addr)(xs:List En):mirI (C "Hours") wQ (v7 C) a dx xs=y1 C xs:=by
 unfold y1 mirI stE
 exact JK (λo o' l=>by simp) (λo o' l=>by simp) (λo o' l=>by simp) (C "Hours") a dx _
theorem t2:2<=TOP:=by decide
theorem qx:∀(s:Int) (ks:List HM.Row),(spans s ks).length=ks.length
 |_,[]=>rfl
 |s,r::rs=>by simp[spans,qx (s+r.1) rs]
def stp (s:Int):List HM.Row->Nat->Int
 | [],_=>s
 |r::_,0=>s+r.1
 |r::rs,i+1=>stp (s+r.1) rs i
def cntK (rest:Int):List HM.Row->Nat->Int
 | [],_=>rest
 |r::_,0=>r.2
 |_::rs,i+1=>cntK rest rs i
theorem qR (rest:Int):∀(ks:List HM.Row) (s:Int) (i:Nat),i < ks.length->∃(a:Int) (r:HM.Row),(spans s ks)[i]?=some (a,r)/\a+r.1=stp s ks i/\r.2=cntK rest ks i
 |r::rs,s,0,_=>⟨s,r,by simp[spans],rfl,rfl⟩
 |r::rs,s,i+1,h=>by
  obtain⟨a,q,h1,h2,h3⟩:=qR rest rs (s+r.1) i (by simpa using h)
  exact⟨a,q,by simpa[spans] using h1,h2,h3⟩
theorem Z4:∀(ks:List HM.Row) (s:Int) (i:Nat),Pos ks->s<=stp s ks i
 | [],_,_,_=>Int.le_refl _
 |r::rs,s,0,h=>by have:=(Pos.cons.mp h).1.1;simp only[stp];omega
 |r::rs,s,i+1,h=>by have:=(Pos.cons.mp h).1.1;have:=Z4 rs (s+r.1) i (Pos.cons.mp h).2;simp only[stp];omega
theorem u7:∀(ks:List HM.Row) (s:Int) (i j:Nat),Pos ks->i<=j->stp s ks i<=stp s ks j
 | [],_,_,_,_,_=>Int.le_refl _
 |r::rs,s,0,0,_,_=>Int.le_refl _
 |r::rs,s,0,j+1,h,_=>Z4 rs (s+r.1) j (Pos.cons.mp h).2
 |r::rs,s,i+1,0,_,h=>by omega
 |r::rs,s,i+1,j+1,h,hj=>u7 rs (s+r.1) i j (Pos.cons.mp h).2 (by omega)
theorem uO (rest x:Int):∀(ks:List HM.Row) (s:Int) (lo:Nat),(∀i,i < lo->stp s ks i<=x)->(lo < ks.length->x < stp s ks lo)->lo<=ks.length->atR rest ks (x - s)=cntK rest ks lo
 | [],_,_,_,_,_=>rfl
 |r::rs,s,0,_,h2,_=>by
  have h:=h2 (by simp)
  simp only[stp] at h
  have h':x - s < r.1:=by omega
  simp[atR,h',cntK]
 |r::rs,s,lo+1,h1,h2,h3=>by
  have h:=h1 0 (by omega)
  simp only[stp] at h
  have h':¬(x - s < r.1):=by omega
  have e:x - s - r.1=x - (s+r.1):=by omega
  simp only[atR,if_neg h',e,cntK]
  exact uO rest x rs (s+r.1) lo (λi hi=>h1 (i+1) (by omega)) (λhl=>h2 (by simpa using hl)) (by simpa using h3)
theorem atI_nat {α:Type}{xs:List α}{i:Nat}{v:α}(h:xs[i]?=some v):atI xs (i:Int)=some v:=vb i h
theorem qj (C:Str->Addr)(fs:List Str)(ds:List D)(rest x:Int)(ks:List HM.Row)(hp:Pos ks)(hs:lookZ "spans" fs ds=some (.lst ((spans 0 ks).map spanD))):∀(k lo hi:Nat) (m:Option En),hi - lo<=k->lo<=hi->hi<=ks.length->(∀i,i < lo->stp 0 ks i<=x)->(hi < ks.length->x < stp 0 ks hi) ->
  ∃(lo':Nat) (m':Option En),(lo'<=ks.length/\(∀i,i < lo'->stp 0 ks i<=x)/\(lo' < ks.length->x < stp 0 ks lo')) /\
   whileD (gb' (g2 fLt (gr 2) (gr 3))) (jo C) (k+1) [some (.val (.obj (C "Hours") fs ds)),some (.val (.int x)),some (.val (.int (lo:Int))),some (.val (.int (hi:Int))),m]
    = some (.next [some (.val (.obj (C "Hours") fs ds)),some (.val (.int x)),some (.val (.int (lo':Int))),some (.val (.int (lo':Int))),m'])
 |0,lo,hi,m,hk,hle,hn,h1,h2=>by
  have:lo=hi:=by omega
  subst this
  refine⟨lo,m,⟨hn,h1,h2⟩,?_⟩
  rw[kg]
  simp
 |k+1,lo,hi,m,hk,hle,hn,h1,h2=>by
  by_cases hlt:lo < hi
  ·obtain⟨mid,hm⟩:∃mid:Nat,mid=(lo+hi) / 2:=⟨_,rfl⟩
   have em:((lo:Int)+(hi:Int)) / 2=(mid:Int):=by omega
   have m1:lo<=mid:=by omega
   have m2:mid < hi:=by omega
   clear hm
   obtain⟨a,r,g1,g2',g3⟩:=qR rest ks 0 mid (by omega)
   have ei:atI ((spans 0 ks).map spanD) (mid:Int)=some (spanD (a,r)):=atI_nat (by simp[g1])
   have t1:atI (α:=D) [.int a,.int (a+r.1),.int r.2] 1=some (.int (a+r.1)):=rfl
   have hl2:(lo:Int) < (hi:Int):=by omega
   by_cases hx:x < stp 0 ks mid
   ·obtain⟨lo',m',p,e⟩:=qj C fs ds rest x ks hp hs k lo mid (some (.val (.int (mid:Int)))) (by omega) (by omega) (by omega) h1 (λ_=>hx)
    refine⟨lo',m',p,?_⟩
    have hx':x < a+r.1:=by rw[g2'];exact hx
    rw[uL (ρ2:=[some (.val (.obj (C "Hours") fs ds)),some (.val (.int x)),some (.val (.int (lo:Int))),some (.val (.int (mid:Int))),some (.val (.int (mid:Int)))]) (by simp[hl2]) (by
     simp[jo,yP,em,hs,ei,spanD,t1,hx']),e]
   ·obtain⟨lo',m',p,e⟩:=qj C fs ds rest x ks hp hs k (mid+1) hi (some (.val (.int (mid:Int)))) (by omega) (by omega) (by omega) (λi hi'=>Int.le_trans (u7 ks 0 i mid hp (by omega)) (by omega)) h2
    refine⟨lo',m',p,?_⟩
    have hx':¬(x < a+r.1):=by rw[g2'];exact hx
    rw[uL (ρ2:=[some (.val (.obj (C "Hours") fs ds)),some (.val (.int x)),some (.val (.int ((mid+1:Nat):Int))),some (.val (.int (hi:Int))),some (.val (.int (mid:Int)))]) (by simp[hl2]) (by
     simp[jo,yP,em,hs,ei,spanD,t1,hx']),e]
  ·have:lo=hi:=by omega
   subst this
   refine⟨lo,m,⟨hn,h1,h2⟩,?_⟩
   rw[kg]
   simp
theorem Ki (C:Str->Addr){rest x:Int}{ks:List HM.Row}(hp:Pos ks):y4 C [.val (hoursD (C "Hours") rest ks),.val (.int x)]=some (.val (.int (atR rest ks x))):=by
 obtain⟨lo,m,⟨p1,p2,p3⟩,e⟩:=qj C FS [.int rest,.lst ((spans 0 ks).map spanD)] rest x ks hp vH ks.length 0 ks.length none (by omega) (by omega) (by omega) (λi hi=>by omega) (λh=>by omega)
 have ea:=uO rest x ks 0 lo p2 p3 p1
 rw[Int.sub_zero] at ea
 have ew:=Y4 e
 simp only[y4,mir,stE,vW,qO,hoursD]
 simp only[Int.natCast_zero] at ew
 by_cases hlt:lo < ks.length
 ·obtain⟨a,r,g1,g2',g3⟩:=qR rest ks 0 lo hlt
  have ei:atI ((spans 0 ks).map spanD) (lo:Int)=some (spanD (a,r)):=atI_nat (by simp[g1])
  have t1:atI (α:=D) [.int a,.int (a+r.1),.int r.2] 2=some (.int r.2):=rfl
  have h':(lo:Int) < (ks.length:Int):=by omega
  simp[vH,qx,ew,ei,spanD,t1,h',ea,g3]
 ·have h':¬((lo:Int) < (ks.length:Int)):=by omega
  have e0:cntK rest ks lo=rest:=by
   have:∀(l:List HM.Row) (i:Nat),l.length<=i->cntK rest l i=rest:=by
    intro l
    induction l with
    |nil=>intro i _;rfl
    |cons q qs ih=>intro i hi;match i,hi with | i+1,hi=>exact ih i (by simpa using hi)
   exact this ks lo (by omega)
  simp[vH,qx,ew,h',ZT,ea,e0]
section
variable (C:Str->Addr){rs:List HM.Row}{rest:Int}
theorem Ks {m:Str}(h1:¬(m = "kept_rest")) (h2:¬(m = "spans")) {r:Int} {x:List D}:lookZ m FS [D.int r,D.lst x]=none:=by simp[lookZ,FS,h1,h2]
structure Fit (rs:List HM.Row)(rest:Int):Prop where
 good:∀r∈rs,Good r
 len:rs.length<=16
 lo:1<=rest
 hi:rest<=8
end
def XN (C:Str->Addr):List Addr:=[C "Doubled",C "Taken",C "NoTicket",C "NotBegun",C "NoBooking",C "NotKept",C "NoCounter",C "TooMany",C "NoName",C "NoNumber",C "NoHours",C "NoLine",C "NoBreak"]
theorem Yt:∀ {cs:List Addr} {bs:List Bool} {i:Nat} {c:Addr} {b:Bool},cs.Nodup->cs[i]?=some c->bs[i]?=some b->(cs.zip bs).lookup c=some b
 | [],_,_,_,_,_,h,_=>by simp at h
 |_::_,[],_,_,_,_,_,h=>by simp at h
 |a::cs,x::bs,0,c,b,nd,h1,h2=>by
  simp at h1 h2;subst h1 h2
  simp[List.lookup]
 |a::cs,x::bs,i+1,c,b,nd,h1,h2=>by
  have h1:cs[i]?=some c:=by simpa using h1
  have h2:bs[i]?=some b:=by simpa using h2
  have hne:c≠a:=λz=>by
   subst z
   exact (List.nodup_cons.mp nd).1 (List.mem_of_getElem? h1)
  have hb:(c==a)=false:=by simpa using hne
  rw[List.zip_cons_cons,List.lookup_cons,hb]
  exact Yt (List.nodup_cons.mp nd).2 h1 h2
theorem JN {tab:List (Addr×Bool)}{c:Addr}{b:Bool}{fs:List (Str×Key)}(h:tab.lookup c=some b):isV tab (.xc (.exc c fs))=some (.bl b):=by
 show (tab.lookup c).map D.bl=_
 rw[h];rfl
def kd (i:Nat):List Bool:=(List.range 13).map λj=>j==i
def kL (k:Nat):List D:=((List.range 13).map λj=>D.bl (j==k))++[.bl true,.bl true]
section
variable {C:Str->Addr}{d:D}
theorem yp {b1 b2 b3 b4 b5 b6 b7 b8 b9 b10 b11 b12 b13 b14:Bool}
  (h1:isV ((XN C).zip (kd 8)) d=some (.bl b1)) (h2:isV ((XN C).zip (kd 9)) d=some (.bl b2)) (h3:isV ((XN C).zip (kd 10)) d=some (.bl b3)) (h4:isV ((XN C).zip (kd 11)) d=some (.bl b4)) (h5:isV ((XN C).zip (kd 7)) d=some (.bl b5))
  (h6:isV ((XN C).zip (kd 0)) d=some (.bl b6)) (h7:isV ((XN C).zip (kd 1)) d=some (.bl b7)) (h8:isV ((XN C).zip (kd 2)) d=some (.bl b8)) (h9:isV ((XN C).zip (kd 3)) d=some (.bl b9)) (h10:isV ((XN C).zip (kd 4)) d=some (.bl b10)) (h11:isV ((XN C).zip (kd 5)) d=some (.bl b11))
  (h12:isV ((XN C).zip (kd 12)) d=some (.bl b12)) (h13:isV ((XN C).zip (kd 6)) d=some (.bl b13)) (h14:isV ((XN C).zip (List.replicate 13 true)) d=some (.bl b14)) :
  y9 C [.val d]=some (.acc [.bl b1,.bl b2,.bl b3,.bl b4,.bl b5,.bl b6,.bl b7,.bl b8,.bl b9,.bl b10,.bl b11,.bl b12,.bl b13,.bl b14,.bl b14]):=by
 have e1:XN C=[C "Doubled",C "Taken",C "NoTicket",C "NotBegun",C "NoBooking",C "NotKept",C "NoCounter",C "TooMany",C "NoName",C "NoNumber",C "NoHours",C "NoLine",C "NoBreak"]:=rfl
 simp only[e1,kd,List.range,List.range.loop,List.map,List.zip,List.zipWith,List.replicate,Nat.reduceBEq] at h1 h2 h3 h4 h5 h6 h7 h8 h9 h10 h11 h12 h13 h14
 have t15:15<=TOP:=by decide
 simp[y9,mir,stE,jl,jS,h1,h2,h3,h4,h5,h6,h7,h8,h9,h10,h11,h12,h13,h14,TOP]
theorem ld (hd:(XN C).Nodup){i:Nat}{c:Addr}(hc:(XN C)[i]?=some c){bs:List Bool}{b:Bool}(hb:bs[i]?=some b){fs:List (Str×Key)}:isV ((XN C).zip bs) (.xc (.exc c fs))=some (.bl b):=JN (Yt hd hc hb)
def atX:Nat->Nat:=λi=>[5,6,7,8,9,10,12,4,0,1,2,3,11].getD i 0
theorem JO (hd:(XN C).Nodup){fs:List (Str×Key)}:∀ {i:Nat} {c:Addr},i < 13->(XN C)[i]?=some c->y9 C [.val (.xc (.exc c fs))]=some (.acc (kL (atX i)))
 |0,c,_,h=>yp (ld hd h rfl) (ld hd h rfl) (ld hd h rfl) (ld hd h rfl) (ld hd h rfl) (ld hd h rfl) (ld hd h rfl) (ld hd h rfl) (ld hd h rfl) (ld hd h rfl) (ld hd h rfl) (ld hd h rfl) (ld hd h rfl) (ld hd h rfl)
 |1,c,_,h=>yp (ld hd h rfl) (ld hd h rfl) (ld hd h rfl) (ld hd h rfl) (ld hd h rfl) (ld hd h rfl) (ld hd h rfl) (ld hd h rfl) (ld hd h rfl) (ld hd h rfl) (ld hd h rfl) (ld hd h rfl) (ld hd h rfl) (ld hd h rfl)
 |2,c,_,h=>yp (ld hd h rfl) (ld hd h rfl) (ld hd h rfl) (ld hd h rfl) (ld hd h rfl) (ld hd h rfl) (ld hd h rfl) (ld hd h rfl) (ld hd h rfl) (ld hd h rfl) (ld hd h rfl) (ld hd h rfl) (ld hd h rfl) (ld hd h rfl)
 |3,c,_,h=>yp (ld hd h rfl) (ld hd h rfl) (ld hd h rfl) (ld hd h rfl) (ld hd h rfl) (ld hd h rfl) (ld hd h rfl) (ld hd h rfl) (ld hd h rfl) (ld hd h rfl) (ld hd h rfl) (ld hd h rfl) (ld hd h rfl) (ld hd h rfl)
 |4,c,_,h=>yp (ld hd h rfl) (ld hd h rfl) (ld hd h rfl) (ld hd h rfl) (ld hd h rfl) (ld hd h rfl) (ld hd h rfl) (ld hd h rfl) (ld hd h rfl) (ld hd h rfl) (ld hd h rfl) (ld hd h rfl) (ld hd h rfl) (ld hd h rfl)
 |5,c,_,h=>yp (ld hd h rfl) (ld hd h rfl) (ld hd h rfl) (ld hd h rfl) (ld hd h rfl) (ld hd h rfl) (ld hd h rfl) (ld hd h rfl) (ld hd h rfl) (ld hd h rfl) (ld hd h rfl) (ld hd h rfl) (ld hd h rfl) (ld hd h rfl)
 |6,c,_,h=>yp (ld hd h rfl) (ld hd h rfl) (ld hd h rfl) (ld hd h rfl) (ld hd h rfl) (ld hd h rfl) (ld hd h rfl) (ld hd h rfl) (ld hd h rfl) (ld hd h rfl) (ld hd h rfl) (ld hd h rfl) (ld hd h rfl) (ld hd h rfl)
 |7,c,_,h=>yp (ld hd h rfl) (ld hd h rfl) (ld hd h rfl) (ld hd h rfl) (ld hd h rfl) (ld hd h rfl) (ld hd h rfl) (ld hd h rfl) (ld hd h rfl) (ld hd h rfl) (ld hd h rfl) (ld hd h rfl) (ld hd h rfl) (ld hd h rfl)
 |8,c,_,h=>yp (ld hd h rfl) (ld hd h rfl) (ld hd h rfl) (ld hd h rfl) (ld hd h rfl) (ld hd h rfl) (ld hd h rfl) (ld hd h rfl) (ld hd h rfl) (ld hd h rfl) (ld hd h rfl) (ld hd h rfl) (ld hd h rfl) (ld hd h rfl)
 |9,c,_,h=>yp (ld hd h rfl) (ld hd h rfl) (ld hd h rfl) (ld hd h rfl) (ld hd h rfl) (ld hd h rfl) (ld hd h rfl) (ld hd h rfl) (ld hd h rfl) (ld hd h rfl) (ld hd h rfl) (ld hd h rfl) (ld hd h rfl) (ld hd h rfl)
 |10,c,_,h=>yp (ld hd h rfl) (ld hd h rfl) (ld hd h rfl) (ld hd h rfl) (ld hd h rfl) (ld hd h rfl) (ld hd h rfl) (ld hd h rfl) (ld hd h rfl) (ld hd h rfl) (ld hd h rfl) (ld hd h rfl) (ld hd h rfl) (ld hd h rfl)
 |11,c,_,h=>yp (ld hd h rfl) (ld hd h rfl) (ld hd h rfl) (ld hd h rfl) (ld hd h rfl) (ld hd h rfl) (ld hd h rfl) (ld hd h rfl) (ld hd h rfl) (ld hd h rfl) (ld hd h rfl) (ld hd h rfl) (ld hd h rfl) (ld hd h rfl)
 |12,c,_,h=>yp (ld hd h rfl) (ld hd h rfl) (ld hd h rfl) (ld hd h rfl) (ld hd h rfl) (ld hd h rfl) (ld hd h rfl) (ld hd h rfl) (ld hd h rfl) (ld hd h rfl) (ld hd h rfl) (ld hd h rfl) (ld hd h rfl) (ld hd h rfl)
 |i+13,_,hi,_=>absurd hi (by omega)
theorem KH {k:Nat}(hk:k < 13)(h:y9 C [.val d]=some (.acc (kL k))):zJ C [.val d,.val (.int k)]=some (.val (.bl true)):=by
 have e1:gFz (gCall (len? 1 (y9 C)) accO (nCons (gn 0) nNil)) [some (.val d),some (.val (.int k))]=some (.lst (kL k)):=by
  show ((y9 C [.val d]).bind accO).map D.lst=_
  rw[h];rfl
 simp only[zJ,mir,stE,vi,qK]
 show outO ((g2 (fEq false) (gFz (gCall (len? 1 (y9 C)) accO (nCons (gn 0) nNil))) _ [some (.val d),some (.val (.int k))]).map λd=>Fl.ret (.val d))=_
 unfold g2
 rw[e1]
 match k,hk with
 |0,_=>rfl
 |1,_=>rfl
 |2,_=>rfl
 |3,_=>rfl
 |4,_=>rfl
 |5,_=>rfl
 |6,_=>rfl
 |7,_=>rfl
 |8,_=>rfl
 |9,_=>rfl
 |10,_=>rfl
 |11,_=>rfl
 |12,_=>rfl
 |k+13,hk=>exact absurd hk (by omega)
end
section
variable {C:Str->Addr}
theorem ownX (hd:(XN C).Nodup){i:Nat}{c:Addr}{k:Nat}(hi:i < 13)(hc:(XN C)[i]?=some c)(hk:atX i=k)(hk2:k < 13)(fs:List (Str×Key)):zJ C [.val (.xc (.exc c fs)),.val (.int k)]=some (.val (.bl true)) :=
 KH hk2 (by rw[JO hd hi hc,hk])
theorem YT {cls:List Addr}{c:Addr}{k:Key}(h:c∈cls):xatD cls "name" (.xc (.exc c [("name",k)]))=some (kD k):=by
 unfold xatD
 simp[h,List.lookup]
theorem Wv {x:Str}(h:Ok x):fEq true (.str x) (.str x)=some (.bl false):=by
 have e:PyData.eqv (toP (.str x)) (toP (.str x))=true:=by
  show PyData.eqv (.str x) (.str x)=true
  rw[KP];simp
 exact v5 (neg:=true) (km h) (km h) (by decide) (by decide) e
theorem ui (x:Int):fEq true (.int x) (.int x)=some (.bl false):=by
 have e:PyData.eqv (toP (.int x)) (toP (.int x))=true:=by
  show PyData.eqv (.int x) (.int x)=true
  rw[vE];simp
 exact v5 (neg:=true) xS xS (by decide) (by decide) e
theorem js (x:Int):fEq false (.int x) (.int x)=some (.bl true):=by
 have e:PyData.eqv (toP (.int x)) (toP (.int x))=true:=by
  show PyData.eqv (.int x) (.int x)=true
  rw[vE];simp
 exact v5 (neg:=false) xS xS (by decide) (by decide) e
theorem ZX {ρ:EnvD}{t1 t2:EnvD->Option Bool}{g:SD}(h1:t1 ρ=some true)(h2:t2 ρ=some false):sIf (gOr (gNot t1) t2) g sNext ρ=some (.next ρ):=by
 unfold sIf gOr gNot
 rw[h1]
 show ((t2 ρ).bind _)=_
 rw[h2];rfl
theorem lap1 {d:D}{k:Nat}{x0 x1 x2 x5 x6:Option En}(h:zJ C [.val d,.val (.int k)]=some (.val (.bl true))):wC C [x0,x1,x2,some (.val (.int k)),some (.val d),x5,x6]=some (.next [x0,x1,x2,some (.val (.int k)),some (.val d),x5,x6]):=by
 simp[wC,h]
theorem lap2 {c:Addr}{n:Str}{k:Nat}{x1 x2 x5 x6:Option En}(hn:Ok n)(hc:c∈[C "Doubled",C "Taken",C "NoTicket",C "NotBegun",C "NoBooking",C "NotKept"]) (h:zJ C [.val (.xc (.exc c [("name",.inr n)])),.val (.int ((5+k:Nat):Int))]=some (.val (.bl true))) :
  wo C [some (.val (.str n)),x1,x2,some (.val (.int k)),some (.val (.xc (.exc c [("name",.inr n)]))),x5,x6]=some (.next [some (.val (.str n)),x1,x2,some (.val (.int k)),some (.val (.xc (.exc c [("name",.inr n)]))),x5,x6]):=by
 have e1:=YT (k:=.inr n) hc
 have e2:fEq true (.str n) (.str n)=some (.bl false):=Wv hn
 have e3:(5:Int)+(k:Int)=((5+k:Nat):Int):=by omega
 rw[<-e3] at h
 unfold wo
 generalize [C "Doubled",C "Taken",C "NoTicket",C "NotBegun",C "NoBooking",C "NotKept"]=L at *
 exact ZX (ρ:=[some (.val (.str n)),x1,x2,some (.val (.int k)),some (.val (.xc (.exc c [("name",.inr n)]))),x5,x6]) (by
  show ((zJ C [.val (.xc (.exc c [("name",.inr n)])),.val (.int (5+(k:Int)))]).bind frzO).bind truD=_
  rw[h];rfl) (by
  show (((xatD L "name" (.xc (.exc c [("name",.inr n)]))).bind λx=>(some (D.str n)).bind λy=>fEq true x y).bind asB)=_
  rw[e1]
  show ((fEq true (.str n) (.str n)).bind asB)=_
  rw[e2];rfl)
end
section
variable {C:Str->Addr}
theorem loop1 {x0 x1 x2 x5 x6:Option En}:∀(ds:List D) (k:Nat) (o3 o4:Option En),(∀j d,ds[j]?=some d->zJ C [.val d,.val (.int ((k+j:Nat):Int))]=some (.val (.bl true))) ->
  ∃a b,forD (.tup [3,4]) (wC C) (enumD k ds) [x0,x1,x2,o3,o4,x5,x6]=some (.next [x0,x1,x2,a,b,x5,x6])
 | [],_,o3,o4,_=>⟨o3,o4,rfl⟩
 |d::ds,k,o3,o4,h=>by
  have h0:zJ C [.val d,.val (.int (k:Int))]=some (.val (.bl true)):=h 0 d rfl
  obtain⟨a,b,e⟩:=loop1 ds (k+1) (some (.val (.int k))) (some (.val d)) (λj d' hj=>by
   have:=h (j+1) d' (by simpa using hj)
   rwa [show k+(j+1)=k+1+j by omega] at this)
  refine⟨a,b,?_⟩
  unfold enumD forD
  show (wC C [x0,x1,x2,some (.val (.int k)),some (.val d),x5,x6]).bind _=_
  rw[lap1 h0,Option.bind_some]
  exact e
theorem loop2 {n:Str}(hn:Ok n){x1 x2 x5 x6:Option En}:∀(cs:List Addr) (k:Nat) (o3 o4:Option En),(∀c∈cs,c∈[C "Doubled",C "Taken",C "NoTicket",C "NotBegun",C "NoBooking",C "NotKept"])->(∀j c,cs[j]?=some c->zJ C [.val (.xc (.exc c [("name",.inr n)])),.val (.int ((5+(k+j):Nat):Int))]=some (.val (.bl true))) ->
  ∃a b,forD (.tup [3,4]) (wo C) (enumD k (cs.map λc=>D.xc (.exc c [("name",.inr n)]))) [some (.val (.str n)),x1,x2,o3,o4,x5,x6]=some (.next [some (.val (.str n)),x1,x2,a,b,x5,x6])
 | [],_,o3,o4,_,_=>⟨o3,o4,rfl⟩
 |c::cs,k,o3,o4,hc,h=>by
  have h0:zJ C [.val (.xc (.exc c [("name",.inr n)])),.val (.int ((5+k:Nat):Int))]=some (.val (.bl true)):=h 0 c rfl
  obtain⟨a,b,e⟩:=loop2 hn cs (k+1) (some (.val (.int k))) (some (.val (.xc (.exc c [("name",.inr n)])))) (λc' h'=>hc c' (.tail _ h')) (λj d' hj=>by
   have:=h (j+1) d' (by simpa using hj)
   rwa [show k+(j+1)=k+1+j by omega] at this)
  refine⟨a,b,?_⟩
  rw[List.map_cons]
  unfold enumD forD
  show (wo C [some (.val (.str n)),x1,x2,some (.val (.int k)),some (.val (.xc (.exc c [("name",.inr n)]))),x5,x6]).bind _=_
  rw[lap2 hn (hc c (.head _)) h0,Option.bind_some]
  exact e
def five (C:Str->Addr):List D:=[.xc (.exc (C "NoName") []),.xc (.exc (C "NoNumber") []),.xc (.exc (C "NoHours") []),.xc (.exc (C "NoLine") []),.xc (.exc (C "TooMany") [])]
def six (C:Str->Addr):List Addr:=[C "Doubled",C "Taken",C "NoTicket",C "NotBegun",C "NoBooking",C "NotKept"]
theorem own5 (hd:(XN C).Nodup):∀j d,(five C)[j]?=some d->zJ C [.val d,.val (.int ((0+j:Nat):Int))]=some (.val (.bl true))
 |0,_,h=>by cases h;exact ownX hd (i:=8) (by decide) rfl rfl (by decide) []
 |1,_,h=>by cases h;exact ownX hd (i:=9) (by decide) rfl rfl (by decide) []
 |2,_,h=>by cases h;exact ownX hd (i:=10) (by decide) rfl rfl (by decide) []
 |3,_,h=>by cases h;exact ownX hd (i:=11) (by decide) rfl rfl (by decide) []
 |4,_,h=>by cases h;exact ownX hd (i:=7) (by decide) rfl rfl (by decide) []
 |j+5,_,h=>by cases h
theorem own6 (hd:(XN C).Nodup){fs:List (Str×Key)}:∀j c,(six C)[j]?=some c->zJ C [.val (.xc (.exc c fs)),.val (.int ((5+(0+j):Nat):Int))]=some (.val (.bl true))
 |0,_,h=>by cases h;exact ownX hd (i:=0) (by decide) rfl rfl (by decide) fs
 |1,_,h=>by cases h;exact ownX hd (i:=1) (by decide) rfl rfl (by decide) fs
 |2,_,h=>by cases h;exact ownX hd (i:=2) (by decide) rfl rfl (by decide) fs
 |3,_,h=>by cases h;exact ownX hd (i:=3) (by decide) rfl rfl (by decide) fs
 |4,_,h=>by cases h;exact ownX hd (i:=4) (by decide) rfl rfl (by decide) fs
 |5,_,h=>by cases h;exact ownX hd (i:=5) (by decide) rfl rfl (by decide) fs
 |j+6,_,h=>by cases h
theorem zG {g1 g2:SD}{ρ ρ':EnvD}(h:g1 ρ=some (.next ρ')):sSeq g1 g2 ρ=g2 ρ':=by unfold sSeq;rw[h];rfl
theorem QR (hd:(XN C).Nodup){n:Str}(hn:Ok n)(a b:Int):xF C [.val (.str n),.val (.int a),.val (.int b)]=some (.val (.bl true)):=by
 obtain⟨p,q,e1⟩:=loop1 (C:=C) (x0:=some (.val (.str n))) (x1:=some (.val (.int a))) (x2:=some (.val (.int b))) (x5:=none) (x6:=none) (five C) 0 none none (own5 hd)
 obtain⟨p',q',e2⟩:=loop2 (C:=C) hn (x1:=some (.val (.int a))) (x2:=some (.val (.int b))) (x5:=none) (x6:=none) (six C) 0 p q (λc h=>h) (own6 hd)
 have o11:=ownX hd (i:=12) (c:=C "NoBreak") (k:=11) (by decide) rfl rfl (by decide) [("first",.inl a),("last",.inl b)]
 have o12:=ownX hd (i:=6) (c:=C "NoCounter") (k:=12) (by decide) rfl rfl (by decide) [("turn",.inl a)]
 have s1:sFor (.tup [3,4]) (gEn (gCons' (gFz (gLst (gCons' (gMk0 (C "NoName") (gc (.str "a"))) (gCons' (gMk0 (C "NoNumber") (gc (.str "b"))) (gCons' (gMk0 (C "NoHours") (gc (.str "c"))) (gCons' (gMk0 (C "NoLine") (gc (.str "d"))) (gCons' (gMk0 (C "TooMany") (gc (.str "e"))) gNil))))))) gNil)) (wC C) [some (.val (.str n)),some (.val (.int a)),some (.val (.int b)),none,none,none,none]=some (.next [some (.val (.str n)),some (.val (.int a)),some (.val (.int b)),p,q,none,none]):=e1
 have s2:sFor (.tup [3,4]) (gEn (gCons' (gFz (gLst (gCons' (gMk1 (C "Doubled") "name" (gv 0)) (gCons' (gMk1 (C "Taken") "name" (gv 0)) (gCons' (gMk1 (C "NoTicket") "name" (gv 0)) (gCons' (gMk1 (C "NotBegun") "name" (gv 0)) (gCons' (gMk1 (C "NoBooking") "name" (gv 0)) (gCons' (gMk1 (C "NotKept") "name" (gv 0)) gNil)))))))) gNil)) (wo C) [some (.val (.str n)),some (.val (.int a)),some (.val (.int b)),p,q,none,none]=some (.next [some (.val (.str n)),some (.val (.int a)),some (.val (.int b)),p',q',none,none]):=e2
 have f1:¬(("last" : Str) = "first"):=by decide +kernel
 have x1:xatD [C "NoBreak"] "first" (.xc (.exc (C "NoBreak") [("first",.inl a),("last",.inl b)]))=some (.int a):=by unfold xatD;simp[List.lookup,kD]
 have x2:xatD [C "NoBreak"] "last" (.xc (.exc (C "NoBreak") [("first",.inl a),("last",.inl b)]))=some (.int b):=by
  have hb:(("last" : Str) == "first")=false:=by decide +kernel
  unfold xatD;simp[List.lookup,kD,hb]
 have x3:xatD [C "NoCounter"] "turn" (.xc (.exc (C "NoCounter") [("turn",.inl a)]))=some (.int a):=by unfold xatD;simp[List.lookup,kD]
 have i1:=ui a
 have i2:=ui b
 have i3:=js a
 show outO (vZ C [some (.val (.str n)),some (.val (.int a)),some (.val (.int b)),none,none,none,none])=_
 unfold vZ
 rw[zG s1,zG s2]
 generalize [C "NoBreak"]=L1 at *
 generalize [C "NoCounter"]=L2 at *
 generalize hD:D.xc (.exc (C "NoBreak") [("first",.inl a),("last",.inl b)])=d1 at *
 generalize hE:D.xc (.exc (C "NoCounter") [("turn",.inl a)])=d2 at *
 have s3:sSet 5 (gMk2 (C "NoBreak") "first" "last" (gv 1) (gv 2)) [some (.val (.str n)),some (.val (.int a)),some (.val (.int b)),p',q',none,none]=some (.next [some (.val (.str n)),some (.val (.int a)),some (.val (.int b)),p',q',some (.val d1),none]):=by rw[<-hD];rfl
 have s4:sSet 6 (gMk1 (C "NoCounter") "turn" (gv 1)) [some (.val (.str n)),some (.val (.int a)),some (.val (.int b)),p',q',some (.val d1),none]=some (.next [some (.val (.str n)),some (.val (.int a)),some (.val (.int b)),p',q',some (.val d1),some (.val d2)]):=by rw[<-hE];rfl
 rw[zG s3,zG s4]
 have o11':zJ C [.val d1,.val (.int 11)]=some (.val (.bl true)):=o11
 have o12':zJ C [.val d2,.val (.int 12)]=some (.val (.bl true)):=o12
 simp[o11',o12',x1,x2,x3,i1,i2,i3]
end
theorem je (ns:List Int)(k:Nat):zy [.val (.scr ns),.val (.int k)]=some (.val (.int (ns.getD k 0))):=by
 by_cases h:k < ns.length
 ·have e:atI ns (k:Int)=some ns[k]:=vb k (List.getElem?_eq_getElem h)
  simp[zy,mir,stE,vt,vU,h,e]
 ·simp[zy,mir,stE,vt,vU,h]
theorem Q1 (a:Int)(k:Int):∃z,vw [.val (.int a),.val (.int k)]=some (.val (.int z)):=by
 have h1:∀x:Int,-LIM < x % 2147483647:=λx=>by unfold LIM;omega
 have h1':∀x:Int,x % 2147483647 < LIM:=λx=>by unfold LIM;omega
 have h2:∀x:Int,-LIM < x % 2147483629:=λx=>by unfold LIM;omega
 have h2':∀x:Int,x % 2147483629 < LIM:=λx=>by unfold LIM;omega
 have l1:-LIM < 69621:=by decide
 have l2:69621 < LIM:=by decide
 have l3:-LIM < 16807:=by decide
 have l4:16807 < LIM:=by decide
 simp[vw,mir,stE,vX,jY,yd,Vo,h1,h2,h1',h2',l1,l2,l3,l4]
theorem kY (ns:List Int)(b:Int)(at0:Nat)(cnt:D)(hb:0 < b)(hb2:b < 1073741824):∀(ks:List Nat) (c:Int) (k0:Option En) (vs:List Int),vs.length+ks.length<=1000->(∀v∈vs,0<=v/\v < b) ->
  ∃(c':Int) (k':Option En) (vs':List Int),(∀v∈vs',0<=v/\v < b)/\vs'.length=vs.length+ks.length /\
   forD (.name 6) jz (ks.map λ(k:Nat)=>D.int (0+(k:Int))) [some (.val (.scr ns)),some (.val (.int (at0:Int))),some (.val (.int b)),some (.val cnt),some (.val (.int c)),some (.acc (vs.map D.int)),k0]
   = some (.next [some (.val (.scr ns)),some (.val (.int (at0:Int))),some (.val (.int b)),some (.val cnt),some (.val (.int c')),some (.acc (vs'.map D.int)),k'])
 | [],c,k0,vs,hl,hv=>⟨c,k0,vs,hv,by simp,by simp⟩
 |k::ks,c,k0,vs,hl,hv=>by
  simp only[List.length_cons] at hl
  obtain⟨z,hz⟩:=Q1 c (0+(k:Int))
  have e0:=je ns 0
  have hs:(0:Int)<=(at0:Int) % 8:=by omega
  have ht:(vs.map D.int).length<=TOP:=by simp[TOP];omega
  have ht':vs.length<=TOP:=by simp[TOP];omega
  have ih:=λ(v:Int) (c2:Int) (h1:0<=v) (h2:v < b)=>kY ns b at0 cnt hb hb2 ks c2 (some (.val (.int (0+(k:Int))))) (vs++[v]) (by simp;omega) (by
   intro w hw
   rcases List.mem_append.mp hw with h | h
   ·exact hv w h
   ·rw[List.mem_singleton.mp h];exact⟨h1,h2⟩)
  by_cases q:Builtin.bitAnd (ns.getD 0 0 / 2 ^ ((at0:Int) % 8).toNat) 1=0
  ·obtain⟨c',k',vs',p1,p2,p3⟩:=ih (c % b) (c / b) (Int.emod_nonneg _ (by omega)) (Int.emod_lt_of_pos _ hb)
   refine⟨c',k',vs',p1,by rw[p2];simp;omega,?_⟩
   rw[<-p3]
   simp at e0 q
   simp[jz,e0,yd,Ye hs,q,yd hb,yP hb hb2,ht,ht']
  ·obtain⟨c',k',vs',p1,p2,p3⟩:=ih (z / 8 % b) c (Int.emod_nonneg _ (by omega)) (Int.emod_lt_of_pos _ hb)
   refine⟨c',k',vs',p1,by rw[p2];simp;omega,?_⟩
   rw[<-p3]
   simp at e0 q hz
   simp[jz,e0,yd,Ye hs,q,yd hb,yP,ht,ht',hz]
theorem vK (ns:List Int)(at0:Nat)(b:Int)(n:Nat)(hb:0 < b)(hb2:b < 1073741824)(hn:n<=900):∃vs:List Int,(∀v∈vs,0<=v/\v < b)/\vs.length=n /\
  yn [.val (.scr ns),.val (.int at0),.val (.int b),.val (.int n)]=some (.acc (vs.map D.int)):=by
 obtain⟨c',k',vs',p1,p2,p3⟩:=kY ns b at0 (.int n) hb hb2 (List.range n) (ns.getD at0 0) none [] (by simp;omega) (by simp)
 refine⟨vs',p1,by simpa using p2,?_⟩
 have e0:=je ns at0
 have hB:-BIG<=(n:Int)/\(n:Int)<=BIG:=by unfold BIG;omega
 simp only[yn,mir,stE,jb,jD]
 simp[e0,hB,qE,TOP] at p3 ⊢
 simp[p3]
def A12:List Nat:=[97,98,122,48,53,57,65,90,32,95,45,44]
def ltr (c:Nat):Bool:=decide (97<=c)&&decide (c<=122)
def fig (c:Nat):Bool:=decide (48<=c)&&decide (c<=57)
def sgn (c:Nat):Bool:=ltr c||fig c
theorem inL {c:Nat}(h:c∈A12):(Builtin.Str.occurrences ("abcdefghijklmnopqrstuvwxyz" : Str) (mk [c]) 0 ("abcdefghijklmnopqrstuvwxyz" : Str).length 1).isEmpty=!ltr c:=by
 have all:A12.all (λc=>(Builtin.Str.occurrences ("abcdefghijklmnopqrstuvwxyz" : Str) (mk [c]) 0 ("abcdefghijklmnopqrstuvwxyz" : Str).length 1).isEmpty==!ltr c)=true:=by decide +kernel
 simpa using List.all_eq_true.mp all c h
theorem inS {c:Nat}(h:c∈A12):(Builtin.Str.occurrences (("abcdefghijklmnopqrstuvwxyz" : Str)++("0123456789" : Str)) (mk [c]) 0 (("abcdefghijklmnopqrstuvwxyz" : Str)++("0123456789" : Str)).length 1).isEmpty=!sgn c:=by
 have all:A12.all (λc=>(Builtin.Str.occurrences (("abcdefghijklmnopqrstuvwxyz" : Str)++("0123456789" : Str)) (mk [c]) 0 (("abcdefghijklmnopqrstuvwxyz" : Str)++("0123456789" : Str)).length 1).isEmpty==!sgn c)=true:=by decide +kernel
 simpa using List.all_eq_true.mp all c h
theorem leA {c:Nat}(h:c∈A12):fLeT (.str "a") (.str (mk [c]))=some (.bl (decide (97<=c)))/\fLeT (.str (mk [c])) (.str "z")=some (.bl (decide (c<=122)))/\fLeT (.str "0") (.str (mk [c]))=some (.bl (decide (48<=c)))/\fLeT (.str (mk [c])) (.str "9")=some (.bl (decide (c<=57))):=by
 have all:A12.all (λc=>((!decide ((mk [c]).cps.toList < ("a" : Str).cps.toList))==decide (97<=c))&&((!decide (("z" : Str).cps.toList < (mk [c]).cps.toList))==decide (c<=122))&&((!decide ((mk [c]).cps.toList < ("0" : Str).cps.toList))==decide (48<=c))&&((!decide (("9" : Str).cps.toList < (mk [c]).cps.toList))==decide (c<=57)))=true:=by decide +kernel
 have:=List.all_eq_true.mp all c h
 simp only[Bool.and_eq_true,beq_iff_eq] at this
 obtain⟨⟨⟨h1,h2⟩,h3⟩,h4⟩:=this
 refine⟨?_,?_,?_,?_⟩
 ·rw[vO,h1]
 ·rw[vO,h2]
 ·rw[vO,h3]
 ·rw[vO,h4]
theorem yo {n:Nat}(h:n<=1000):n<=TOP:=Nat.le_trans h (by decide)
theorem QY:("abcdefghijklmnopqrstuvwxyz" : Str).length+("0123456789" : Str).length<=TOP:=by decide +kernel
theorem Zy:∀(l:List Nat),(∀d∈l,d∈A12)->compD (.name 0) tYes qS [none] (l.map λc=>D.str (mk [c]))=some (l.map λc=>D.bl (sgn c))
 | [],_=>by simp
 |c::l,h=>by
  have ih:=Zy l λd hd=>h d (by simp[hd])
  have e:=inS (h c (by simp))
  simp only[List.map_cons,xP,ih]
  simp[qS,QY,e]
theorem vY {α:Type}(f:α->Bool):∀(l:List α),asBs (l.map λc=>D.bl (f c))=some (l.map f)
 | []=>rfl
 |a::l=>by
  show (asBs (l.map λc=>D.bl (f c))).map (f a::·)=_
  rw[vY f l];rfl
def nameB (l:List Nat):Bool:=match l with
 | []=>false
 |c::cs=>decide ((c::cs).length<=8)&&(ltr c&&(c::cs).all sgn)
theorem ZV {l:List Nat}(h:l.length<=1000):fLen [.str (mk l)]=some (.int (l.length:Nat)):=by
 show (if (mk l).length<=TOP then some (D.int (mk l).length) else none)=_
 rw[j0,if_pos (yo h)]
theorem item0 {c:Nat}{cs:List Nat}(h:cs.length<=900):fItem (.str (mk (c::cs))) (.int 0)=some (.str (mk [c])):=by
 have e3:=j7 (l:=c::cs) (a:=0) (yo (by simp only[List.length_cons];omega)) (by omega) (by simp only[List.length_cons];omega)
 simpa using e3
theorem Vc {l:List Nat}(h:∀c∈l,c∈A12)(hl:l.length<=10):yf [.val (.str (mk l))]=some (.val (.bl (nameB l))):=by
 have ss:subT "str" "str" = some true:=by decide
 have l1:=ZV (l:=l) (by omega)
 cases l with
 |nil=>
  have l1':fLen [.str (mk [])]=some (.int 0):=l1
  simp[yf,mir,stE,xq,xg,ss,l1',nameB]
 |cons c cs=>
  have hcs:cs.length<=9:=by simpa using hl
  have e3:=item0 (c:=c) (cs:=cs) (by omega)
  have e1:=Zy (c::cs) h
  have e2:=vY sgn (c::cs)
  have e4:=inL (h c (by simp))
  have l4:cs.length+1<=TOP:=yo (by omega)
  have l5:(1:Int)<=(cs.length:Int)+1:=by omega
  rw[<-jv] at e1
  have lch:(chD (mk (c::cs))).length=cs.length+1:=by rw[jv];simp
  simp only[List.map_cons] at e1 e2
  simp only[List.length_cons] at l1
  generalize hz:mk (c::cs)=z at *
  by_cases q:cs.length+1<=8
  ·have l6:(cs.length:Int)+1<=8:=by omega
   cases q2:ltr c with
   |false=>simp[yf,mir,stE,xq,xg,ss,l1,e3,e4,l5,l6,nameB,q2]
   |true=>simp[yf,mir,stE,xq,xg,ss,l1,e3,e4,lch,l4,l5,l6,e1,e2,nameB,q2,q];rfl
  ·have l6:¬(cs.length:Int)+1<=8:=by omega
   simp[yf,mir,stE,xq,xg,ss,l1,l5,l6,nameB,q]
theorem u9:∀(l:List Nat),(∀d∈l,d∈A12)->compD (.name 0) (gOr (gb' (g3 fLeT fLeT (gc (.str "a")) (gr 0) (gc (.str "z")))) (gb' (g3 fLeT fLeT (gc (.str "0")) (gr 0) (gc (.str "9"))))) jE [none] (l.map λc=>D.str (mk [c]))=some ((l.filter sgn).map λc=>D.str (mk [c]))
 | [],_=>by simp
 |c::l,h=>by
  have ih:=u9 l λd hd=>h d (by simp[hd])
  obtain⟨a1,a2,a3,a4⟩:=leA (h c (by simp))
  have t:(gOr (gb' (g3 fLeT fLeT (gc (.str "a")) (gr 0) (gc (.str "z")))) (gb' (g3 fLeT fLeT (gc (.str "0")) (gr 0) (gc (.str "9"))))) [some (.val (.str (mk [c])))]=some (sgn c):=by
   generalize hz:mk [c]=z at *
   unfold sgn ltr fig
   by_cases q1:97<=c
   ·by_cases q2:c<=122
    ·simp[a1,a2,q1,q2]
    ·by_cases q3:48<=c
     ·simp[a1,a2,a3,a4,q1,q2,q3]
     ·simp[a1,a2,a3,a4,q1,q2,q3]
   ·by_cases q3:48<=c
    ·simp[a1,a3,a4,q1,q3]
    ·simp[a1,a3,a4,q1,q3]
  rw[List.map_cons,xP]
  show ((gOr _ _ [some (.val (.str (mk [c])))]).bind _)=_
  rw[t,Option.bind_some,ih]
  cases q:sgn c with
  |true=>simp[q,jE]
  |false=>simp[q]
theorem uC {α:Type}(f:α->Bool):∀(l:List α),decide ((l.filter f).length=l.length)=l.all f
 | []=>rfl
 |a::l=>by
  have ih:=uC f l
  have hle:=List.length_filter_le f l
  cases q:f a with
  |true=>simp[q] at ih ⊢;exact ih
  |false=>
   simp[q]
   intro h
   have:(l.filter f).length<=l.length:=hle
   omega
theorem eqI (neg:Bool)(a b:Int):fEq neg (.int a) (.int b)=some (.bl (if neg then !decide (a=b) else decide (a=b))):=v5 xS xS (by decide) (by decide) (vE a b)
theorem JZ {l:List Nat}(h:∀c∈l,c∈A12)(hl:l.length<=10):yL [.val (.str (mk l))]=some (.val (.bl (nameB l))):=by
 have l1:=ZV (l:=l) (by omega)
 cases l with
 |nil=>
  have l1':fLen [.str (mk [])]=some (.int 0):=l1
  simp[yL,mir,stE,yM,xo,l1',nameB]
 |cons c cs=>
  have hcs:cs.length<=9:=by simpa using hl
  have e3:=item0 (c:=c) (cs:=cs) (by omega)
  have e1:=u9 (c::cs) h
  obtain⟨a1,a2,-,-⟩:=leA (h c (by simp))
  have n0:¬((cs.length:Int)+1=0):=by omega
  have l4:cs.length+1<=TOP:=yo (by omega)
  rw[<-jv] at e1
  have lch:(chD (mk (c::cs))).length=cs.length+1:=by rw[jv];simp
  have fl:=uC sgn (c::cs)
  have eq2:=eqI false (((c::cs).filter sgn).length:Int) ((cs.length:Int)+1)
  simp only[List.length_cons] at l1
  have l1:fLen [.str (mk (c::cs))]=some (.int ((cs.length:Int)+1)):=l1
  have al:decide ((((c::cs).filter sgn).length:Int)=(cs.length:Int)+1)=(c::cs).all sgn:=by
   rw[<-fl]
   simp only[List.length_cons]
   by_cases z:((c::cs).filter sgn).length=cs.length+1
   ·rw[decide_eq_true (by omega:(((c::cs).filter sgn).length:Int)=(cs.length:Int)+1),decide_eq_true z]
   ·rw[decide_eq_false (by omega:¬(((c::cs).filter sgn).length:Int)=(cs.length:Int)+1),decide_eq_false z]
  rw[al] at eq2
  generalize hz:mk (c::cs)=z at *
  generalize hF:(c::cs).filter sgn=F at *
  generalize hA:(c::cs).all sgn=A at *
  generalize hm:mk [c]=m at *
  have fF:fLen [.lst (F.map λc=>D.str (mk [c]))]=some (.int F.length):=by
   show some (D.int ((F.map λc=>D.str (mk [c])).length:Nat))=_
   rw[List.length_map]
  by_cases q:cs.length+1<=8
  ·have l6:¬(8:Int) < (cs.length:Int)+1:=by omega
   by_cases q1:97<=c
   ·by_cases q2:c<=122
    ·simp[yL,mir,stE,yM,xo,l1,n0,l6,e3,a1,a2,q1,q2,lch,l4,e1,fF,al,nameB,q,ltr]
     rw[<-hA];simp
    ·simp[yL,mir,stE,yM,xo,l1,n0,l6,e3,a1,a2,q1,q2,nameB,q,ltr]
   ·simp[yL,mir,stE,yM,xo,l1,n0,l6,e3,a1,q1,nameB,q,ltr]
  ·have l6:(8:Int) < (cs.length:Int)+1:=by omega
   simp[yL,mir,stE,yM,xo,l1,n0,l6,nameB,q]
theorem sig12:("abz059AZ _-," : Str)=mk A12:=by decide +kernel
def A4:List Nat:=[97,122,48,57]
theorem sig4:("az09" : Str)=mk A4:=by decide +kernel
theorem mem12 {v:Int}(h1:0<=v)(h2:v < 12):A12.getD v.toNat 0∈A12:=by
 have h3:v.toNat < A12.length:=by
  have:A12.length=12:=rfl
  omega
 rw[List.getD_eq_getElem?_getD,List.getElem?_eq_getElem h3]
 exact List.getElem_mem _
theorem mem4 {v:Int}(h1:0<=v)(h2:v < 4):A4.getD v.toNat 0∈A12:=by
 have h3:v.toNat < A4.length:=by
  have:A4.length=4:=rfl
  omega
 have:∀c∈A4,c∈A12:=by decide
 rw[List.getD_eq_getElem?_getD,List.getElem?_eq_getElem h3]
 exact this _ (List.getElem_mem _)
theorem comp12:∀(vs:List Int),(∀v∈vs,0<=v/\v < 12)->compD (.name 0) tYes j4 [none,some (.val (.str (mk A12)))] (vs.map D.int)=some ((vs.map λv=>A12.getD v.toNat 0).map λc=>D.str (mk [c]))
 | [],_=>by simp
 |v::vs,h=>by
  have ih:=comp12 vs λd hd=>h d (by simp[hd])
  obtain⟨h1,h2⟩:=h v (by simp)
  have e:=j7 (l:=A12) (a:=v) (by decide) h1 (by have:(A12.length:Int)=12:=rfl;omega)
  generalize mk A12=z at *
  simp only[List.map_cons,xP,ih]
  simp[j4,e]
theorem comp4:∀(vs:List Int),(∀v∈vs,0<=v/\v < 4)->compD (.name 0) tYes qM [none] (vs.map D.int)=some ((vs.map λv=>A4.getD v.toNat 0).map λc=>D.str (mk [c]))
 | [],_=>by simp
 |v::vs,h=>by
  have ih:=comp4 vs λd hd=>h d (by simp[hd])
  obtain⟨h1,h2⟩:=h v (by simp)
  have e:=j7 (l:=A4) (a:=v) (by decide) h1 (by have:(A4.length:Int)=4:=rfl;omega)
  rw[<-sig4] at e
  simp only[List.map_cons,xP,ih]
  simp[qM,e]
theorem Yu:∀(l:List Nat),asSs (l.map λc=>D.str (mk [c]))=some (l.map λc=>mk [c])
 | []=>rfl
 |c::l=>by
  show (asSs (l.map λc=>D.str (mk [c]))).map (mk [c]::·)=_
  rw[Yu l];rfl
theorem flat1:∀l:List Nat,(l.map λn=>[n]).flatten=l
 | []=>rfl
 |a::l=>by simpa using flat1 l
theorem sum1:∀l:List Nat,((l.map λc=>mk [c]).map (·.length)).sum=l.length
 | []=>rfl
 |a::l=>by
  have:=sum1 l
  simp only[List.map_cons,List.sum_cons,List.length_cons,this,j0]
  simp;omega
theorem uJ {l:List Nat}(h:l.length<=900):fJoin (.str "") [.lst (l.map λc=>D.str (mk [c]))]=some (.str (mk l)):=by
 have e0:("" : Str).length=0:=by decide +kernel
 have e1:=W9 (l.map λn=>[n])
 rw[List.map_map,flat1] at e1
 rw[Jx,Yu,Option.bind_some,if_pos (by rw[sum1,e0];exact yo (by simp;omega))]
 exact congrArg (λx=>some (D.str x)) e1
theorem YQ (ns:List Int):∃l:List Nat,(∀c∈l,c∈A12)/\l.length<=10/\xn [.val (.scr ns)]=some (.val (.str (mk l))):=by
 have e1:=je ns 1
 obtain⟨c,hc⟩:∃c,c=ns.getD 1 0:=⟨_,rfl⟩
 obtain⟨n,hn⟩:∃n:Nat,(n:Int)=c % 11:=⟨(c % 11).toNat,by omega⟩
 have hn10:n<=10:=by omega
 obtain⟨vs,p1,p2,p3⟩:=vK ns 2 12 n (by decide) (by decide) (by omega)
 obtain⟨ws,r1,r2,r3⟩:=vK ns 2 4 n (by decide) (by decide) (by omega)
 have c1:=comp12 vs p1
 have c2:=comp4 ws r1
 have j1:=uJ (l:=vs.map λv=>A12.getD v.toNat 0) (by simp;omega)
 have j2:=uJ (l:=ws.map λv=>A4.getD v.toNat 0) (by simp;omega)
 have t1:(vs.map D.int).length<=TOP:=yo (by simp;omega)
 have t2:(ws.map D.int).length<=TOP:=yo (by simp;omega)
 rw[<-hc] at e1
 rw[hn] at p3 r3
 simp at e1 p3 r3 t1 t2
 have s12:=sig12
 rw[<-s12] at c1
 by_cases q:0 < c / 11 % 3
 ·refine⟨ws.map λv=>A4.getD v.toNat 0,λx hx=>?_,by simp;omega,?_⟩
  ·obtain⟨v,hv,rfl⟩:=List.mem_map.mp hx
   exact mem4 (r1 v hv).1 (r1 v hv).2
  ·generalize (vs.map λv=>A12.getD v.toNat 0)=l1 at *
   generalize (ws.map λv=>A4.getD v.toNat 0)=l2 at *
   simp[xn,mir,stE,xE,vN,e1,yd,yP,p3,r3,t1,t2,c1,c2,j1,j2,q]
 ·refine⟨vs.map λv=>A12.getD v.toNat 0,λx hx=>?_,by simp;omega,?_⟩
  ·obtain⟨v,hv,rfl⟩:=List.mem_map.mp hx
   exact mem12 (p1 v hv).1 (p1 v hv).2
  ·generalize (vs.map λv=>A12.getD v.toNat 0)=l1 at *
   generalize (ws.map λv=>A4.getD v.toNat 0)=l2 at *
   simp[xn,mir,stE,xE,vN,e1,yd,yP,p3,r3,t1,t2,c1,c2,j1,j2,q]
theorem ok12 {l:List Nat}(h:∀c∈l,c∈A12):Ok (mk (110::l)):=by
 show (mk (110::l)).cps.all (· < 0x110000)=true
 rw[Array.all_eq_true']
 intro c hc
 have hc:c∈110::l:=by simpa[mk] using hc
 have all:A12.all (λc=>decide (c < 0x110000))=true:=by decide
 rcases List.mem_cons.mp hc with rfl | hc
 ·decide
 ·exact List.all_eq_true.mp all c (h c hc)
theorem vn (b:Bool):yc [.val (.bl b),.val (.bl b)]=some (.val (.bl true)):=by cases b<;>rfl
def Odd (d:D):Prop:=yf [.val d]=some (.val (.bl false))/\zX [.val d]=some (.val (.bl false))
theorem yh {d:D}{t:String}(h:tyD d=some t)(h1:subT t "str" = some false) (h2:subT t "int" = some false∨(subT t "int" = some true/\subT t "bool" = some true)):Odd d:=by
 have e1:gr 0 [some (En.val d)]=some d:=rfl
 constructor
 ·simp[yf,mir,stE,xq,xg,gIs,h,h1]
 ·rcases h2 with h2 | ⟨h2,h3⟩
  ·simp[zX,mir,stE,wa,xC,gIs,h,h2]
  ·simp[zX,mir,stE,wa,xC,gIs,h,h2,h3]
theorem Zh {d a b:D}(h:Odd d):z6 [.val d,.val a,.val b]=some (.val (.bl false)):=by
 have h2:=h.2
 simp[z6,mir,stE,xh,xN,h2]
theorem numB (x lo hi:Int):z6 [.val (.int x),.val (.int lo),.val (.int hi)]=some (.val (.bl (decide (lo<=x)&&decide (x<=hi)))):=by
 have h:=qm x
 by_cases q:lo<=x
 ·simp[z6,mir,stE,xh,xN,h,q]
 ·simp[z6,mir,stE,xh,xN,h,q]
theorem lapT {d:D}(h:Odd d)(x0 x1 x3 x4:Option En):wA [x0,x1,some (.val d),x3,x4]=some (.next [x0,x1,some (.val d),x3,x4]):=by
 have h1:=h.1
 have h2:=h.2
 have h3:=Zh (a:=.int (-9)) (b:=.int 9) h
 have t:=vn false
 simp[wA,h1,h2,h3,t]
theorem loopT (x0 x1 x3 x4:Option En):∀(ds:List D) (o:Option En),(∀d∈ds,Odd d)->∃o',forD (.name 2) wA ds [x0,x1,o,x3,x4]=some (.next [x0,x1,o',x3,x4])
 | [],o,_=>⟨o,rfl⟩
 |d::ds,o,h=>by
  obtain⟨o',e⟩:=loopT x0 x1 x3 x4 ds (some (.val d)) λd' h'=>h d' (.tail _ h')
  refine⟨o',?_⟩
  unfold forD
  show (wA [x0,x1,some (.val d),x3,x4]).bind _=_
  rw[lapT (h d (.head _)),Option.bind_some]
  exact e
theorem nC {g:EnvD->Option En}{gs:EnvD->Option (List En)}{ρ:EnvD}{a:En}{as:List En}(h1:g ρ=some a)(h2:gs ρ=some as):nCons g gs ρ=some (a::as):=by unfold nCons;rw[h1,h2];rfl
theorem lapN (x lo hi:Int)(x0 x2:Option En):qr [x0,some (.val (.int x)),x2,some (.val (.int lo)),some (.val (.int hi))]=some (.next [x0,some (.val (.int x)),x2,some (.val (.int lo)),some (.val (.int hi))]):=by
 have h:=numB x lo hi
 have t:=vn (decide (lo<=x)&&decide (x<=hi))
 have g:g3 fLe fLe (gr 3) (gr 1) (gr 4) [x0,some (.val (.int x)),x2,some (.val (.int lo)),some (.val (.int hi))]=some (.bl (decide (lo<=x)&&decide (x<=hi))):=by
  by_cases q:lo<=x
  ·simp[q]
  ·simp[q]
 generalize (decide (lo<=x)&&decide (x<=hi))=b at *
 unfold qr
 unfold sIf gNot
 have e:gt (gCall (len? 2 yc) frzO (nCons (gVal (gCall (len? 3 z6) frzO (nCons (gn 1) (nCons (gn 3) (nCons (gn 4) nNil))))) (nCons (gVal (g3 fLe fLe (gr 3) (gr 1) (gr 4))) nNil))) [x0,some (.val (.int x)),x2,some (.val (.int lo)),some (.val (.int hi))]=some true:=by
  have e1:gVal (gCall (len? 3 z6) frzO (nCons (gn 1) (nCons (gn 3) (nCons (gn 4) nNil)))) [x0,some (.val (.int x)),x2,some (.val (.int lo)),some (.val (.int hi))]=some (.val (.bl b)):=by
   show ((z6 [.val (.int x),.val (.int lo),.val (.int hi)]).bind frzO).map En.val=_
   rw[h];rfl
  have e2:nCons (gVal (gCall (len? 3 z6) frzO (nCons (gn 1) (nCons (gn 3) (nCons (gn 4) nNil))))) (nCons (gVal (g3 fLe fLe (gr 3) (gr 1) (gr 4))) nNil) [x0,some (.val (.int x)),x2,some (.val (.int lo)),some (.val (.int hi))]=some [.val (.bl b),.val (.bl b)]:=by
   refine nC e1 (nC ?_ rfl)
   show (g3 fLe fLe (gr 3) (gr 1) (gr 4) [x0,some (.val (.int x)),x2,some (.val (.int lo)),some (.val (.int hi))]).map En.val=_
   rw[g];rfl
  show (((nCons (gVal (gCall (len? 3 z6) frzO (nCons (gn 1) (nCons (gn 3) (nCons (gn 4) nNil))))) (nCons (gVal (g3 fLe fLe (gr 3) (gr 1) (gr 4))) nNil) [x0,some (.val (.int x)),x2,some (.val (.int lo)),some (.val (.int hi))]).bind (len? 2 yc)).bind frzO).bind truD=_
  rw[e2]
  show ((yc [.val (.bl b),.val (.bl b)]).bind frzO).bind truD=_
  rw[t];rfl
 rw[e];rfl
theorem YJ {l:List Nat}(h:∀c∈l,c∈A12)(hl:l.length<=10)(x:Int):wJ [.val (.str (mk l)),.val (.int x)]=some (.val (.bl true)):=by
 have n1:=Vc h hl
 have n2:=JZ h hl
 have w1:=qm x
 have t0:=vn false
 have t1:=vn true
 have tb:=vn (nameB l)
 have st1:subT "str" "int" = some false:=by decide
 have n3:yf [.val (.int x)]=some (.val (.bl false)):=by
  have:subT "int" "str" = some false:=by decide
  simp[yf,mir,stE,xq,xg,gIs,this]
 have w2:zX [.val (.str (mk l))]=some (.val (.bl false)):=by
  simp[zX,mir,stE,wa,xC,gIs,st1]
 generalize nameB l=b at *
 generalize mk l=t at *
 have od:∀d∈[D.non,.bl true,.bl false,.lst [.str t],.tup [.str t],.emp,.lst [],.xc (.dic "a" 1)],Odd d:=by
  intro d hd
  simp only[List.mem_cons,List.not_mem_nil,or_false] at hd
  rcases hd with rfl | rfl | rfl | rfl | rfl | rfl | rfl | rfl
  ·exact yh (t := "NoneType") rfl (by decide) (.inl (by decide))
  ·exact yh (t := "bool") rfl (by decide) (.inr ⟨by decide,by decide⟩)
  ·exact yh (t := "bool") rfl (by decide) (.inr ⟨by decide,by decide⟩)
  ·exact yh (t := "list") rfl (by decide) (.inl (by decide))
  ·exact yh (t := "tuple") rfl (by decide) (.inl (by decide))
  ·exact yh (t := "dict") rfl (by decide) (.inl (by decide))
  ·exact yh (t := "list") rfl (by decide) (.inl (by decide))
  ·exact yh (t := "dict") rfl (by decide) (.inl (by decide))
 obtain⟨o,e1⟩:=loopT (some (.val (.str t))) (some (.val (.int x))) none none _ none od
 have t8:8<=TOP:=by decide
 have t1':1<=TOP:=by decide
 have t4:4<=TOP:=by decide
 have s1:sFor (.name 2) (gIt (gFz (gLst (gCons' (gc .non) (gCons' (gc (.bl true)) (gCons' (gc (.bl false)) (gCons' (gFz (gLst (gCons' (gv 0) gNil))) (gCons' (gTup' (gCons' (gv 0) gNil)) (gCons' (gc .emp) (gCons' (gFz (gLst gNil)) (gCons' (gc (.xc (.dic "a" 1))) gNil))))))))))) wA [some (.val (.str t)),some (.val (.int x)),none,none,none]=some (.next [some (.val (.str t)),some (.val (.int x)),o,none,none]):=e1
 have l1:=λlo hi=>lapN x lo hi (some (.val (.str t))) o
 show outO (vJ [some (.val (.str t)),some (.val (.int x)),none,none,none])=_
 unfold vJ
 rw[zG s1]
 simp[n1,n2,n3,w1,w2,t0,t1,tb,l1,asgD,yI,t2,t4]
def NoNum (lo hi:Int)(d:D):Prop:=z6 [.val d,.val (.int lo),.val (.int hi)]=some (.val (.bl false))
theorem jg {lo hi x:Int}(h:¬(lo<=x/\x<=hi)):NoNum lo hi (.int x):=by
 unfold NoNum
 rw[numB]
 have:(decide (lo<=x)&&decide (x<=hi))=false:=by
  by_cases q:lo<=x
  ·have:¬x<=hi:=λz=>h ⟨q,z⟩
   simp[this]
  ·simp[q]
 rw[this]
theorem wD {lo hi:Int}{d:D}(h:Odd d):NoNum lo hi d:=Zh h
theorem Jr (x:Str){lo hi:Int}:NoNum lo hi (.str x):=by
 have st1:subT "str" "int" = some false:=by decide
 have w2:zX [.val (.str x)]=some (.val (.bl false)):=by
  simp[zX,mir,stE,wa,xC,gIs,st1]
 simp[NoNum,z6,mir,stE,xh,xN,w2]
def oddL (lo hi far:Int):List D:=[.int (lo - 1),.int (hi+1),.int (lo - far),.int (hi+far),.bl true,.non,.str "1",.lst [.int lo],.tup [.int lo],.bl false,.emp]
theorem Wu {lo hi far:Int}(hf:0 < far)(hh:lo<=hi):∀d∈oddL lo hi far,NoNum lo hi d:=by
 intro d hd
 simp only[oddL,List.mem_cons,List.not_mem_nil,or_false] at hd
 rcases hd with rfl | rfl | rfl | rfl | rfl | rfl | rfl | rfl | rfl | rfl | rfl
 ·exact jg (by omega)
 ·exact jg (by omega)
 ·exact jg (by omega)
 ·exact jg (by omega)
 ·exact wD (yh (t := "bool") rfl (by decide) (.inr ⟨by decide,by decide⟩))
 ·exact wD (yh (t := "NoneType") rfl (by decide) (.inl (by decide)))
 ·exact Jr _
 ·exact wD (yh (t := "list") rfl (by decide) (.inl (by decide)))
 ·exact wD (yh (t := "tuple") rfl (by decide) (.inl (by decide)))
 ·exact wD (yh (t := "bool") rfl (by decide) (.inr ⟨by decide,by decide⟩))
 ·exact wD (yh (t := "dict") rfl (by decide) (.inl (by decide)))
theorem p20:fPow (.int 10) (.int 20)=some (.int 100000000000000000000):=by rfl
theorem qQ (c:Int)(m:Nat)(hm:0 < m):∃j:Nat,j < m/\c % (m:Int)=(j:Int):=by
 have h1:=Int.emod_nonneg c (b:=(m:Int)) (by omega)
 have h2:=Int.emod_lt_of_pos c (b:=(m:Int)) (by omega)
 exact⟨(c % (m:Int)).toNat,by omega,by omega⟩
theorem qB (c lo hi:Int)(hh:lo<=hi):∃d,yu [.val (.int c),.val (.int lo),.val (.int hi)]=some (.val d)/\NoNum lo hi d:=by
 obtain⟨far,hf⟩:∃far,far=100000000000000000000+c % 100000000000000000000:=⟨_,rfl⟩
 have f0:0 < far:=by omega
 obtain⟨j,hj,ej⟩:=qQ c 11 (by decide)
 have hl:j < (oddL lo hi far).length:=hj
 have hg:(oddL lo hi far)[j]?=some (oddL lo hi far)[j]:=List.getElem?_eq_getElem hl
 refine⟨(oddL lo hi far)[j],?_,Wu f0 hh _ (List.getElem_mem _)⟩
 have ea:=atI_nat hg
 generalize (oddL lo hi far)[j]=d at *
 have ej:c % 11=(j:Int):=ej
 have m20:fMod (.int c) (.int 100000000000000000000)=some (.int (c % 100000000000000000000)):=yd (by decide)
 have m11:fMod (.int c) (.int 11)=some (.int (j:Int)):=by rw[yd (by decide),ej]
 have t11:11<=TOP:=by decide
 have t1':1<=TOP:=by decide
 have s1:sSet 3 (g2 fPlus (g2 fPow (gc (.int 10)) (gc (.int 20))) (g2 fMod (gr 0) (g2 fPow (gc (.int 10)) (gc (.int 20))))) [some (.val (.int c)),some (.val (.int lo)),some (.val (.int hi)),none,none]=some (.next [some (.val (.int c)),some (.val (.int lo)),some (.val (.int hi)),some (.val (.int far)),none]):=by
  simp[p20,m20,hf]
 have s2:sSet 4 (gFz (gLst (gCons' (g2 fSub (gr 1) (gc (.int 1))) (gCons' (g2 fPlus (gr 2) (gc (.int 1))) (gCons' (g2 fSub (gr 1) (gr 3)) (gCons' (g2 fPlus (gr 2) (gr 3)) (gCons' (gc (.bl true)) (gCons' (gc .non) (gCons' (gc (.str "1")) (gCons' (gFz (gLst (gCons' (gv 1) gNil))) (gCons' (gTup' (gCons' (gv 1) gNil)) (gCons' (gc (.bl false)) (gCons' (gc .emp) gNil))))))))))))) [some (.val (.int c)),some (.val (.int lo)),some (.val (.int hi)),some (.val (.int far)),none]=some (.next [some (.val (.int c)),some (.val (.int lo)),some (.val (.int hi)),some (.val (.int far)),some (.val (.lst (oddL lo hi far)))]):=by
  simp[t11,t1',oddL]
 show outO (vG [some (.val (.int c)),some (.val (.int lo)),some (.val (.int hi)),none,none])=_
 unfold vG
 rw[zG s1,zG s2]
 generalize oddL lo hi far=L at *
 simp[m11,ea]
def BadRow (d:D):Prop:=zN [.val d]=some (.val (.bl false))
theorem bad1 {d:D}(h:NoNum 1 100 d):BadRow (.tup [d,.int 3]):=by
 have h:z6 [.val d,.val (.int 1),.val (.int 100)]=some (.val (.bl false)):=h
 have ss:subT "tuple" "tuple" = some true:=by decide
 simp[BadRow,zN,mir,stE,xZ,xA,ss,h]
theorem bad2 {d:D}(h:NoNum 0 8 d):BadRow (.tup [.int 3,d]):=by
 have h:z6 [.val d,.val (.int 0),.val (.int 8)]=some (.val (.bl false)):=h
 have h3:z6 [.val (.int 3),.val (.int 1),.val (.int 100)]=some (.val (.bl true)):=jh (by decide) (by decide)
 have ss:subT "tuple" "tuple" = some true:=by decide
 simp[BadRow,zN,mir,stE,xZ,xA,ss,h,h3]
theorem bad3 {d:D}{t:String}(h:tyD d=some t)(h1:subT t "tuple" = some false):BadRow d:=by
 simp[BadRow,zN,mir,stE,xZ,xA,gIs,h,h1]
theorem bad4 {ds:List D}(h:ds.length≠2):BadRow (.tup ds):=by
 have ss:subT "tuple" "tuple" = some true:=by decide
 have h':¬((ds.length:Int)=2):=by omega
 simp[BadRow,zN,mir,stE,xZ,xA,ss,h']
def badL:List D:=[.lst [.int 1,.int 1],.tup [.int 1],.tup [.int 1,.int 1,.int 1],.int 1,.non,.str "11",.emp,.tup []]
theorem QF:∀d∈badL,BadRow d:=by
 intro d hd
 simp only[badL,List.mem_cons,List.not_mem_nil,or_false] at hd
 rcases hd with rfl | rfl | rfl | rfl | rfl | rfl | rfl | rfl
 ·exact bad3 (t := "list") rfl (by decide)
 ·exact bad4 (by decide)
 ·exact bad4 (by decide)
 ·exact bad3 (t := "int") rfl (by decide)
 ·exact bad3 (t := "NoneType") rfl (by decide)
 ·exact bad3 (t := "str") rfl (by decide)
 ·exact bad3 (t := "dict") rfl (by decide)
 ·exact bad4 (by decide)
theorem WW (c:Int):∃d,yK [.val (.int c)]=some (.val d)/\BadRow d:=by
 obtain⟨d1,a1,b1⟩:=qB (c / 10) 1 100 (by decide)
 obtain⟨d2,a2,b2⟩:=qB (c / 10) 0 8 (by decide)
 obtain⟨j,hj,ej⟩:=qQ (c / 10) 8 (by decide)
 have ej:c / 10 % 8=(j:Int):=ej
 have hg:badL[j]?=some badL[j]:=List.getElem?_eq_getElem hj
 have ea:=atI_nat hg
 have t2:2<=TOP:=by decide
 have t8:8<=TOP:=by decide
 have t1':1<=TOP:=by decide
 have t3:3<=TOP:=by decide
 have m10:fMod (.int c) (.int 10)=some (.int (c % 10)):=yd (by decide)
 have d10:fDiv (.int c) (.int 10)=some (.int (c / 10)):=yP (by decide) (by decide)
 have m8:fMod (.int (c / 10)) (.int 8)=some (.int (j:Int)):=by rw[yd (by decide),ej]
 by_cases q:c % 10 < 4
 ·refine⟨_,?_,bad1 b1⟩
  simp[yK,mir,stE,wz,vj,m10,d10,q,a1,t2]
 ·by_cases q2:c % 10 < 7
  ·refine⟨_,?_,bad2 b2⟩
   simp[yK,mir,stE,wz,vj,m10,d10,q,q2,a2,t2]
  ·refine⟨badL[j],?_,QF _ (List.getElem_mem _)⟩
   generalize badL[j]=d at *
   simp only[badL] at ea
   simp[yK,mir,stE,wz,vj,m10,d10,q,q2,m8,t1',t2,t3,t8,ea]
def Refd (d r:D):Prop:=yA [.val d,.val r]=some (("NoHours" : Str),none)
theorem ref1 {d r:D}{t:String}(h:tyD d=some t)(h1:subT t "list" = some false):Refd d r:=by
 simp[Refd,yA,mirY,stE,yw,wc,gIs,h,h1,yAlt,yIf,yO]
theorem ref2 {ds:List D}{r:D}(h:16 < ds.length):Refd (.lst ds) r:=by
 have ss:subT "list" "list" = some true:=by decide
 have h':(16:Int) < (ds.length:Int):=by omega
 simp[Refd,yA,mirY,stE,yw,wc,ss,h',yAlt,yIf,yO]
theorem jt {e:EnvD->Option D}(he:e=gCall (len? 1 zN) frzO (nCons (gn 0) nNil)):∀(ds:List D) (f:D->Bool),(∀d∈ds,zN [.val d]=some (.val (.bl (f d))))->compD (.name 0) tYes e [none] ds=some (ds.map λd=>D.bl (f d))
 | [],_,_=>by simp
 |d::ds,f,h=>by
  have ih:=jt he ds f λd' h'=>h d' (.tail _ h')
  have e1:=h d (.head _)
  simp only[List.map_cons,xP,ih]
  subst he
  simp[e1]
theorem ref3 {ds:List D}{r:D}(f:D->Bool)(hl:ds.length<=16)(h:∀d∈ds,zN [.val d]=some (.val (.bl (f d))))(hf:ds.all f=false):Refd (.lst ds) r:=by
 have ss:subT "list" "list" = some true:=by decide
 have h':¬(16:Int) < (ds.length:Int):=by omega
 have c0:=jt (e:=jC) rfl ds f h
 have t:ds.length<=TOP:=yo (by omega)
 have ab:=vY f ds
 have al:(ds.map f).all (λx=>x)=false:=by rw[List.all_map];exact hf
 have fa:fAll [.lst (ds.map λd=>D.bl (f d))]=some (.bl false):=by
  show (asBs (ds.map λd=>D.bl (f d))).map (λbs=>D.bl (bs.all λx=>x))=_
  rw[ab,Option.map_some,al]
 simp[Refd,yA,mirY,stE,yw,wc,ss,h',t,c0,fa,yAlt,yIf,yO,ySeq,yNo]
theorem ref4 {ds:List D}{r:D}(hl:ds.length<=16)(h:∀d∈ds,zN [.val d]=some (.val (.bl true)))(hr:NoNum 1 8 r):Refd (.lst ds) r:=by
 have ss:subT "list" "list" = some true:=by decide
 have h':¬(16:Int) < (ds.length:Int):=by omega
 have c0:=jt (e:=jC) rfl ds (λ_=>true) h
 have c1:=jt (e:=Yz) rfl ds (λ_=>true) h
 have t:ds.length<=TOP:=yo (by omega)
 have ab:=vY (λ_=>true) ds
 have al:(ds.map λ_=>true).all (λx=>x)=true:=by rw[List.all_map];simp
 have fa:fAll [.lst (ds.map λd=>D.bl true)]=some (.bl true):=by
  show (asBs (ds.map λd=>D.bl true)).map (λbs=>D.bl (bs.all λx=>x))=_
  rw[ab,Option.map_some,al]
 have hr:z6 [.val r,.val (.int 1),.val (.int 8)]=some (.val (.bl false)):=hr
 simp[Refd,yA,mirY,stE,yw,wc,ss,h',t,c0,c1,fa,hr,yAlt,yIf,yO,ySeq,yNo]
theorem Zp {C:Str->Addr}(hd:(XN C).Nodup){d r:D}(h:Refd d r):yZ C [.val d,.val r]=some (.val (.bl true)):=by
 have h:yA [.val d,.val r]=some (("NoHours" : Str),none):=h
 have o2:zJ C [.val (.xc (.exc (C "NoHours") [])),.val (.int 2)]=some (.val (.bl true)):=ownX hd (i:=10) (by decide) rfl rfl (by decide) []
 have e1:xx [.exn 0,.val d,.val r]=some (("NoHours" : Str),none):=by
  show (if (3:Nat)=3 then (((yA [.val d,.val r]).map λq=>(_,q)).map (·.2):Option Xv) else none)=_
  rw[h];rfl
 have s1:sSet 2 (gc .non) [some (.val d),some (.val r),none,none]=some (.next [some (.val d),some (.val r),some (.val .non),none]):=rfl
 have s2:sTryK C ["NoHours"] 3 2 (yE (yMake xx (nCons (gn 0) (nCons (gn 1) nNil)))) [some (.val d),some (.val r),some (.val .non),none]=some (.next [some (.val d),some (.val r),some (.val (.xc (.exc (C "NoHours") []))),none]):=by
  unfold sTryK
  have:yE (yMake xx (nCons (gn 0) (nCons (gn 1) nNil))) [some (.val d),some (.val r),some (.val .non),none]=some (([some (.val d),some (.val r),some (.val .non),none]:EnvD),("NoHours" : Str),none):=by
   show (xx [.exn 0,.val d,.val r]).map _=_
   rw[e1];rfl
  rw[this,Option.bind_some]
  show (if ("NoHours" : Str)∈[("NoHours" : Str)]/\okV (some 3) _=true/\(3:Nat)≠2 then _ else none)=_
  rw[if_pos ⟨List.mem_singleton.mpr rfl,rfl,by decide⟩];rfl
 show outO (vQ C [some (.val d),some (.val r),none,none])=_
 unfold vQ
 rw[zG s1,zG s2]
 have hx:isNon (.xc (.exc (C "NoHours") []))=false:=rfl
 generalize D.xc (.exc (C "NoHours") [])=x at *
 simp[hx,o2]
theorem jN {r:HM.Row}(h:Good r):zN [.val (rowD r)]=some (.val (.bl true)):=kz h
theorem Zo (ts ks:List Int):∀(l:List Nat),(∀k∈l,k < ts.length/\k < ks.length)->compD (.name 0) tYes vo [none,some (.val (.lst (ks.map D.int))),some (.val (.lst (ts.map D.int)))] (l.map λ(k:Nat)=>D.int (0+(k:Int)))=some (l.map λk=>rowD (1+ts.getD k 0,ks.getD k 0))
 | [],_=>by simp
 |k::l,h=>by
  have ih:=Zo ts ks l λd hd=>h d (.tail _ hd)
  obtain⟨h1,h2⟩:=h k (.head _)
  have e1:atI (ts.map D.int) (k:Int)=some (.int (ts.getD k 0)):=by
   refine atI_nat ?_
   rw[List.getElem?_map,List.getElem?_eq_getElem h1,List.getD_eq_getElem?_getD,List.getElem?_eq_getElem h1];rfl
  have e2:atI (ks.map D.int) (k:Int)=some (.int (ks.getD k 0)):=by
   refine atI_nat ?_
   rw[List.getElem?_map,List.getElem?_eq_getElem h2,List.getD_eq_getElem?_getD,List.getElem?_eq_getElem h2];rfl
  simp only[List.map_cons,xP,ih]
  generalize ts.map D.int=T at *
  generalize ks.map D.int=U at *
  generalize ts.getD k 0=a at *
  generalize ks.getD k 0=b at *
  simp[vo,e1,e2,t2,rowD]
theorem Zt {P:Int->Prop}{vs:List Int}(h:∀v∈vs,P v){k:Nat}(hk:k < vs.length):P (vs.getD k 0):=by
 rw[List.getD_eq_getElem?_getD,List.getElem?_eq_getElem hk]
 exact h _ (List.getElem_mem _)
def wW (ts ks:List Int)(n:Nat):List HM.Row:=(List.range n).map λk=>(1+ts.getD k 0,ks.getD k 0)
theorem YY {ts ks:List Int}{n:Nat}(h1:∀v∈ts,0<=v/\v < 100)(h2:∀v∈ks,0<=v/\v < 9)(l1:ts.length=n)(l2:ks.length=n):∀r∈wW ts ks n,Good r:=by
 intro r hr
 obtain⟨k,hk,rfl⟩:=List.mem_map.mp hr
 have hk:=List.mem_range.mp hk
 have a:=Zt h1 (k:=k) (by omega)
 have b:=Zt h2 (k:=k) (by omega)
 exact⟨⟨by show 1<=1+ts.getD k 0;omega,by show 1+ts.getD k 0<=100;omega⟩,b.1,by show ks.getD k 0<=8;omega⟩
theorem qd {rs:List HM.Row}(h:∀r∈rs,Good r):Pos rs:=λr hr=>⟨by have:=(h r hr).1.1;omega,(h r hr).2.1⟩
theorem Qb (x y:HM.Row):PyData.eqv (toP (rowD x)) (toP (rowD y))=decide (x=y):=by
 have e:PyData.eqv (toP (rowD x)) (toP (rowD y))=(PyData.eqv (.int x.1) (.int y.1)&&(PyData.eqv (.int x.2) (.int y.2)&&true)):=rfl
 rw[e,vE,vE]
 obtain⟨a,b⟩:=x
 obtain⟨c,d⟩:=y
 by_cases h1:a=c
 ·by_cases h2:b=d
  ·simp[h1,h2]
  ·simp[h1,h2]
 ·simp[h1]
theorem W4 (r:HM.Row):Lay 1 (rowD r):=⟨rfl,by show max 0 (max 0 0)+1<=1;decide⟩
theorem Zz (neg:Bool)(l:List HM.Row):fEq neg (.lst (l.map rowD)) (.lst (l.map rowD))=some (.bl (if neg then false else true)):=by
 have hL:Lay 2 (.lst (l.map rowD)):=Q0 λx _=>W4 x
 have e:PyData.eqvAll (toPs (l.map rowD)) (toPs (l.map rowD))=true:=by
  rw[ji,Z2 (f:=λx=>toP (rowD x)) Qb];simp
 have:=v5 (neg:=neg) (b:=true) hL hL (by decide) (by decide) e
 simpa using this
def rowB (x:D):Bool:=match zN [.val x] with
 |some (.val (.bl b))=>b
 |_=>false
theorem YS {rs:List HM.Row}(h:∀r∈rs,Good r)(hl:rs.length<=8){d r:D}(hd:BadRow d)(a:Nat):Refd (.lst ((rs.take a).map rowD++[d]++(rs.drop a).map rowD)) r:=by
 have hd:zN [.val d]=some (.val (.bl false)):=hd
 have gt:∀x∈rs.take a,Good x:=λx hx=>h x (List.mem_of_mem_take hx)
 have gd:∀x∈rs.drop a,Good x:=λx hx=>h x (List.mem_of_mem_drop hx)
 have hlen:((rs.take a).map rowD++[d]++(rs.drop a).map rowD).length<=16:=by simp;omega
 have val:∀x∈(rs.take a).map rowD++[d]++(rs.drop a).map rowD,∃b,zN [.val x]=some (.val (.bl b)):=λx hx=>by
  rcases List.mem_append.mp hx with hx | hx
  ·rcases List.mem_append.mp hx with hx | hx
   ·obtain⟨r,hr,rfl⟩:=List.mem_map.mp hx
    exact⟨true,jN (gt r hr)⟩
   ·rw[List.mem_singleton.mp hx];exact⟨false,hd⟩
  ·obtain⟨r,hr,rfl⟩:=List.mem_map.mp hx
   exact⟨true,jN (gd r hr)⟩
 refine ref3 rowB hlen (λx hx=>?_) ?_
 ·obtain⟨b,hb⟩:=val x hx
  rw[hb];show _=some (En.val (.bl (rowB x)))
  unfold rowB
  rw[hb]
 ·rw[List.all_eq_false]
  refine⟨d,by simp,?_⟩
  unfold rowB
  rw[hd];decide
theorem Wz {r:D}:Refd (.lst (List.replicate 17 (D.tup [.int 1,.int 1]))) r:=ref2 (by decide)
section
variable {C:Str->Addr}
theorem W1 {rest:Int}{ks:List HM.Row}:yQ C [.val (hoursD (C "Hours") rest ks)]=some (.val (.int rest)):=by
 simp[yQ,mir,stE,qZ,qG,hoursD,gFld,ZT]
theorem jI {α:Type}{mm:Str}{m:List En->Option En}{out:En->Option α}{g:EnvD->Option D}{gxs:EnvD->Option (List En)}{xs:List En}{ρ:EnvD}{rest:Int}{ks:List HM.Row}(h0:g ρ=some (hoursD (C "Hours") rest ks)) (h1:¬(mm = "kept_rest")) (h2:¬(mm = "spans")) (hx:gxs ρ=some xs) :
  gMeth (C "Hours") mm m out g gxs ρ=(m (.val (hoursD (C "Hours") rest ks)::xs)).bind out:=by
 unfold gMeth
 rw[h0,hx]
 have:=Ks (m:=mm) h1 h2 (r:=rest) (x:=(spans 0 ks).map spanD)
 simp[hoursD,this]
def rows16:List HM.Row:=(List.range 16).map λ(k:Nat)=>((100:Int),8 * ((k:Int) % 2))
theorem jH:∀r∈rows16,Good r:=by
 intro r hr
 obtain⟨k,-,rfl⟩:=List.mem_map.mp hr
 exact⟨⟨by show (1:Int)<=100;decide,by show (100:Int)<=100;decide⟩,by show 0<=8 * ((k:Int) % 2);omega,by show 8 * ((k:Int) % 2)<=8;omega⟩
theorem VW:krows 1 rows16=rows16:=by rfl
theorem comp16:compD (.name 0) tYes vk [none] (rngD 0 16)=some (rows16.map rowD):=by rfl
theorem end16:yG C [.val (hoursD (C "Hours") 1 rows16)]=some (.val (.int 1600)):=by
 have e:(spans 0 rows16).map spanD=[.tup [.int 0,.int 100,.int 0],.tup [.int 100,.int 200,.int 8],.tup [.int 200,.int 300,.int 0],.tup [.int 300,.int 400,.int 8],.tup [.int 400,.int 500,.int 0],.tup [.int 500,.int 600,.int 8],.tup [.int 600,.int 700,.int 0],.tup [.int 700,.int 800,.int 8],.tup [.int 800,.int 900,.int 0],.tup [.int 900,.int 1000,.int 8],.tup [.int 1000,.int 1100,.int 0],.tup [.int 1100,.int 1200,.int 8],.tup [.int 1200,.int 1300,.int 0],.tup [.int 1300,.int 1400,.int 8],.tup [.int 1400,.int 1500,.int 0],.tup [.int 1500,.int 1600,.int 8]]:=by rfl
 have ea:atI ((spans 0 rows16).map spanD) (-1)=some (.tup [.int 1500,.int 1600,.int 8]):=by rw[e];rfl
 have ht:truD (.lst ((spans 0 rows16).map spanD))=some true:=by rw[e];rfl
 generalize hS:(spans 0 rows16).map spanD=S at *
 have hh:hoursD (C "Hours") 1 rows16=.obj (C "Hours") FS [.int 1,.lst S]:=by unfold hoursD;rw[hS]
 rw[hh]
 simp[yG,mir,stE,ko,jT,gFld,vH,ea,ht]
theorem at16:y4 C [.val (hoursD (C "Hours") 1 rows16),.val (.int 1599)]=some (.val (.int 8)):=by
 rw[Ki C (qd jH)]
 rfl
end
section
variable {C:Str->Addr}
theorem v9 {ns:List Int}{ρ:EnvD}(h0:ρ[0]?=some (some (.val (.scr ns))))(j:Nat):gCall (len? 2 zy) frzO (nCons (gn 0) (nCons (gVal (gc (.int j))) nNil)) ρ=some (.int (ns.getD j 0)):=by
 have e:nCons (gn 0) (nCons (gVal (gc (.int j))) nNil) ρ=some [.val (.scr ns),.val (.int j)]:=nC (by unfold gn;rw[h0]) rfl
 unfold gCall
 rw[e,Option.bind_some]
 show (zy [.val (.scr ns),.val (.int j)]).bind frzO=_
 rw[je];rfl
theorem loopR (hd:(XN C).Nodup){x0 x1 x2 x3 x4 x5 x6 x7 x8 x9 x11 x12 x13:Option En}:∀(ds:List D) (o:Option En),(∀d∈ds,Refd d (.int 1))->∃o',forD (.name 10) (vd C) ds [x0,x1,x2,x3,x4,x5,x6,x7,x8,x9,o,x11,x12,x13]=some (.next [x0,x1,x2,x3,x4,x5,x6,x7,x8,x9,o',x11,x12,x13])
 | [],o,_=>⟨o,rfl⟩
 |d::ds,o,h=>by
  obtain⟨o',e⟩:=loopR hd ds (some (.val d)) λd' h'=>h d' (.tail _ h')
  refine⟨o',?_⟩
  have h1:=Zp hd (h d (.head _))
  have s:vd C [x0,x1,x2,x3,x4,x5,x6,x7,x8,x9,some (.val d),x11,x12,x13]=some (.next [x0,x1,x2,x3,x4,x5,x6,x7,x8,x9,some (.val d),x11,x12,x13]):=by
   simp[vd,h1]
  unfold forD
  show (vd C [x0,x1,x2,x3,x4,x5,x6,x7,x8,x9,some (.val d),x11,x12,x13]).bind _=_
  rw[s,Option.bind_some]
  exact e
theorem uy {g:EnvD->Option D}{ρ:EnvD}{d:D}(h:g ρ=some d):gVal g ρ=some (.val d):=by unfold gVal;rw[h];rfl
theorem gC {g:EnvD->Option D}{gs:EnvD->Option (List D)}{ρ:EnvD}{a:D}{as:List D}(h1:g ρ=some a)(h2:gs ρ=some as):gCons' g gs ρ=some (a::as):=by unfold gCons';rw[h1,h2];rfl
theorem qF {g g':EnvD->Option D}{ρ:EnvD}(h:g ρ=some (.bl true)):gAndV g g' ρ=g' ρ:=by unfold gAndV;rw[h];rfl
theorem QU {gs:EnvD->Option (List D)}{ρ:EnvD}{ds:List D}{i:Nat}(h:gs ρ=some ds)(hl:ds.length<=TOP):sSet i (gFz (gLst gs)) ρ=some (.next (ρ.set i (some (.val (.lst ds))))):=by
 unfold sSet gFz gLst
 rw[h,Option.bind_some,if_pos hl];rfl
theorem Ky {ρ:EnvD}{t1 t2:EnvD->Option Bool}{g:SD}(h1:t1 ρ=some true)(h2:t2 ρ=some true):sIf (gOr (gNot t1) (gNot t2)) g sNext ρ=some (.next ρ):=by
 unfold sIf gOr gNot
 rw[h1]
 show (((t2 ρ).map _).bind _)=_
 rw[h2];rfl
theorem p30:fPow (.int 10) (.int 30)=some (.int 1000000000000000000000000000000):=by rfl
theorem m30:fMul (.int 2) (.int 1000000000000000000000000000000)=some (.int 2000000000000000000000000000000):=by rfl
theorem VO (l:List Nat):("n" : Str)++mk l=mk (110::l):=by
 have:("n" : Str)=mk [110]:=by decide +kernel
 rw[this,Y1];rfl
theorem Wb (C:Str->Addr)(hd:(XN C).Nodup)(ns:List Int)(hl:ns.length<=63):WH C [.val (.scr ns)]=some (.val (.bl true)):=by
 obtain⟨x,hx⟩:∃x,x=ns.getD 3 0 % 2000000000000000000000000000001 - 1000000000000000000000000000000:=⟨_,rfl⟩
 obtain⟨l,t1,t2,e2⟩:=YQ ns
 have er:=QR hd (ok12 t1) x (x / 7)
 have th:=YJ t1 t2 x
 obtain⟨n,hn⟩:∃n:Nat,(n:Int)=1+ns.getD 4 0 % 8:=⟨(1+ns.getD 4 0 % 8).toNat,by omega⟩
 have hn1:1<=n:=by omega
 have hn8:n<=8:=by omega
 obtain⟨ts,a1,a2,a3⟩:=vK ns 5 100 n (by decide) (by decide) (by omega)
 obtain⟨ks,b1,b2,b3⟩:=vK ns 6 9 n (by decide) (by decide) (by omega)
 have good:=YY a1 b1 a2 b2
 have rl:(wW ts ks n).length=n:=by simp[wW]
 have rc:=Zo ts ks (List.range n) (λk hk=>by have:=List.mem_range.mp hk;omega)
 have rc':compD (.name 0) tYes vo [none,some (.val (.lst (ks.map D.int))),some (.val (.lst (ts.map D.int)))] ((List.range n).map λ(k:Nat)=>D.int (0+(k:Int)))=some ((wW ts ks n).map rowD):=by rw[rc];unfold wW;rw[List.map_map];rfl
 obtain⟨a,ha,ea⟩:=qQ (ns.getD 4 0 / 8) (n+1) (by omega)
 obtain⟨bad,e8,hbad⟩:=WW (ns.getD 7 0)
 obtain⟨od,e13,hod⟩:=qB (ns.getD 8 0) 1 8 (by decide)
 generalize hrs:wW ts ks n=rs at *
 have rows_ok:∀d∈rs.map rowD,zN [.val d]=some (.val (.bl true)):=λd hd=>by
  obtain⟨r,hr,rfl⟩:=List.mem_map.mp hd
  exact jN (good r hr)
 obtain⟨r0,rs',hr0⟩:∃r0 rs',rs=r0::rs':=by
  cases rs with
  |nil=>simp at rl;omega
  |cons r0 rs'=>exact⟨r0,rs',rfl⟩
 have ref:∀d∈[D.lst ((rs.take a).map rowD++[bad]++(rs.drop a).map rowD),.tup (rs.map rowD),.non,.int 5,.str "a",.emp,rowD r0,.lst (List.replicate 17 (D.tup [.int 1,.int 1]))],Refd d (.int 1):=by
  intro d hd
  simp only[List.mem_cons,List.not_mem_nil,or_false] at hd
  rcases hd with rfl | rfl | rfl | rfl | rfl | rfl | rfl | rfl
  ·exact YS good (by omega) hbad a
  ·exact ref1 (t := "tuple") rfl (by decide)
  ·exact ref1 (t := "NoneType") rfl (by decide)
  ·exact ref1 (t := "int") rfl (by decide)
  ·exact ref1 (t := "str") rfl (by decide)
  ·exact ref1 (t := "dict") rfl (by decide)
  ·exact ref1 (t := "tuple") rfl (by decide)
  ·exact Wz
 have rodd:=Zp hd (ref4 (ds:=rs.map rowD) (by simp;omega) rows_ok hod)
 have i8:=Yr C good (by omega) (rest:=8) (by decide) (by decide) (qd good)
 have i16:=Yr C jH (by decide) (rest:=1) (by decide) (by decide) (qd jH)
 rw[VW] at i16
 generalize hL:[D.lst ((rs.take a).map rowD++[bad]++(rs.drop a).map rowD),.tup (rs.map rowD),.non,.int 5,.str "a",.emp,rowD r0,.lst (List.replicate 17 (D.tup [.int 1,.int 1]))]=L at ref
 obtain⟨o10,e10⟩:=loopR hd (x0:=some (.val (.scr ns))) (x1:=some (.val (.int x))) (x2:=some (.val (.str (mk l)))) (x3:=some (.val (.int n))) (x4:=some (.val (.lst (ts.map D.int)))) (x5:=some (.val (.lst (ks.map D.int)))) (x6:=some (.val (.lst (rs.map rowD)))) (x7:=some (.val (.int a))) (x8:=some (.val bad)) (x9:=some (.val (.lst L))) (x11:=none) (x12:=none) (x13:=none) L none ref
 have s1:sSet 1 (g2 fSub (g2 fMod (gCall (len? 2 zy) frzO (nCons (gn 0) (nCons (gVal (gc (.int 3))) nNil))) (g2 fPlus (g2 fMul (gc (.int 2)) (g2 fPow (gc (.int 10)) (gc (.int 30)))) (gc (.int 1)))) (g2 fPow (gc (.int 10)) (gc (.int 30)))) [some (.val (.scr ns)),none,none,none,none,none,none,none,none,none,none,none,none,none]=some (.next [some (.val (.scr ns)),some (.val (.int x)),none,none,none,none,none,none,none,none,none,none,none,none]):=by
  have c:=v9 (ns:=ns) (ρ:=[some (.val (.scr ns)),none,none,none,none,none,none,none,none,none,none,none,none,none]) rfl 3
  have c:gCall (len? 2 zy) frzO (nCons (gn 0) (nCons (gVal (gc (.int 3))) nNil)) [some (.val (.scr ns)),none,none,none,none,none,none,none,none,none,none,none,none,none]=some (.int (ns.getD 3 0)):=c
  have q1:g2 fPow (gc (.int 10)) (gc (.int 30)) [some (.val (.scr ns)),none,none,none,none,none,none,none,none,none,none,none,none,none]=some (.int 1000000000000000000000000000000):=p30
  have q2:g2 fMul (gc (.int 2)) (g2 fPow (gc (.int 10)) (gc (.int 30))) [some (.val (.scr ns)),none,none,none,none,none,none,none,none,none,none,none,none,none]=some (.int 2000000000000000000000000000000):=by
   show ((g2 fPow (gc (.int 10)) (gc (.int 30)) [some (.val (.scr ns)),none,none,none,none,none,none,none,none,none,none,none,none,none]).bind λy=>fMul (.int 2) y)=_
   rw[q1];exact m30
  unfold sSet
  rw[y8,y8,c,y8,q2,q1]
  show ((fMod (.int (ns.getD 3 0)) (.int 2000000000000000000000000000001)).bind λy=>fSub y (.int 1000000000000000000000000000000)).map _=_
  rw[yd (by decide),hx];rfl
 have s2:sSet 2 (gCall (len? 1 xn) frzO (nCons (gn 0) nNil)) [some (.val (.scr ns)),some (.val (.int x)),none,none,none,none,none,none,none,none,none,none,none,none]=some (.next [some (.val (.scr ns)),some (.val (.int x)),some (.val (.str (mk l))),none,none,none,none,none,none,none,none,none,none,none]):=by
  show ((xn [.val (.scr ns)]).bind frzO).map _=_
  rw[e2];rfl
 have s3:sIf (gOr (gNot (gt (gCall (len? 3 (xF C)) frzO (nCons (gVal (g2 fPlus (gc (.str "n")) (gr 2))) (nCons (gn 1) (nCons (gVal (g2 fDiv (gr 1) (gc (.int 7)))) nNil)))))) (gNot (gt (gCall (len? 2 wJ) frzO (nCons (gn 2) (nCons (gn 1) nNil)))))) (sRet (gc (.bl false))) sNext [some (.val (.scr ns)),some (.val (.int x)),some (.val (.str (mk l))),none,none,none,none,none,none,none,none,none,none,none]=some (.next [some (.val (.scr ns)),some (.val (.int x)),some (.val (.str (mk l))),none,none,none,none,none,none,none,none,none,none,none]):=by
  refine Ky ?_ ?_
  ·have pl:fPlus (.str "n") (.str (mk l))=some (.str (mk (110::l))):=by
    have:("n" : Str).length=1:=by decide +kernel
    rw[Y5,if_pos (by rw[this,j0];exact yo (by omega)),VO]
   have dv:fDiv (.int x) (.int 7)=some (.int (x / 7)):=yP (by decide) (by decide)
   have e:nCons (gVal (g2 fPlus (gc (.str "n")) (gr 2))) (nCons (gn 1) (nCons (gVal (g2 fDiv (gr 1) (gc (.int 7)))) nNil)) [some (.val (.scr ns)),some (.val (.int x)),some (.val (.str (mk l))),none,none,none,none,none,none,none,none,none,none,none]=some [.val (.str (mk (110::l))),.val (.int x),.val (.int (x / 7))]:=nC (by
    show (fPlus (.str "n") (.str (mk l))).map En.val=_
    rw[pl];rfl) (nC rfl (nC (by
    show (fDiv (.int x) (.int 7)).map En.val=_
    rw[dv];rfl) rfl))
   show (((nCons (gVal (g2 fPlus (gc (.str "n")) (gr 2))) (nCons (gn 1) (nCons (gVal (g2 fDiv (gr 1) (gc (.int 7)))) nNil)) [some (.val (.scr ns)),some (.val (.int x)),some (.val (.str (mk l))),none,none,none,none,none,none,none,none,none,none,none]).bind (len? 3 (xF C))).bind frzO).bind truD=_
   rw[e]
   show ((xF C [.val (.str (mk (110::l))),.val (.int x),.val (.int (x / 7))]).bind frzO).bind truD=_
   rw[er];rfl
  ·show ((wJ [.val (.str (mk l)),.val (.int x)]).bind frzO).bind truD=_
   rw[th];rfl
 have s4:sSet 3 (g2 fPlus (gc (.int 1)) (g2 fMod (gCall (len? 2 zy) frzO (nCons (gn 0) (nCons (gVal (gc (.int 4))) nNil))) (gc (.int 8)))) [some (.val (.scr ns)),some (.val (.int x)),some (.val (.str (mk l))),none,none,none,none,none,none,none,none,none,none,none]=some (.next [some (.val (.scr ns)),some (.val (.int x)),some (.val (.str (mk l))),some (.val (.int n)),none,none,none,none,none,none,none,none,none,none]):=by
  have c:gCall (len? 2 zy) frzO (nCons (gn 0) (nCons (gVal (gc (.int 4))) nNil)) [some (.val (.scr ns)),some (.val (.int x)),some (.val (.str (mk l))),none,none,none,none,none,none,none,none,none,none,none]=some (.int (ns.getD 4 0)):=v9 (ns:=ns) (ρ:=[some (.val (.scr ns)),some (.val (.int x)),some (.val (.str (mk l))),none,none,none,none,none,none,none,none,none,none,none]) rfl 4
  unfold sSet
  rw[y8,y8,c]
  show (((fMod (.int (ns.getD 4 0)) (.int 8)).bind λy=>fPlus (.int 1) y)).map _=_
  rw[yd (by decide),Option.bind_some,V4,<-hn];rfl
 have s5:sSet 4 (gFz (gCall (len? 4 yn) accO (nCons (gn 0) (nCons (gVal (gc (.int 5))) (nCons (gVal (gc (.int 100))) (nCons (gn 3) nNil)))))) [some (.val (.scr ns)),some (.val (.int x)),some (.val (.str (mk l))),some (.val (.int n)),none,none,none,none,none,none,none,none,none,none]=some (.next [some (.val (.scr ns)),some (.val (.int x)),some (.val (.str (mk l))),some (.val (.int n)),some (.val (.lst (ts.map D.int))),none,none,none,none,none,none,none,none,none]):=by
  show (((yn [.val (.scr ns),.val (.int ((5:Nat):Int)),.val (.int 100),.val (.int n)]).bind accO).map D.lst).map _=_
  rw[a3];rfl
 have s6:sSet 5 (gFz (gCall (len? 4 yn) accO (nCons (gn 0) (nCons (gVal (gc (.int 6))) (nCons (gVal (gc (.int 9))) (nCons (gn 3) nNil)))))) [some (.val (.scr ns)),some (.val (.int x)),some (.val (.str (mk l))),some (.val (.int n)),some (.val (.lst (ts.map D.int))),none,none,none,none,none,none,none,none,none]=some (.next [some (.val (.scr ns)),some (.val (.int x)),some (.val (.str (mk l))),some (.val (.int n)),some (.val (.lst (ts.map D.int))),some (.val (.lst (ks.map D.int))),none,none,none,none,none,none,none,none]):=by
  show (((yn [.val (.scr ns),.val (.int ((6:Nat):Int)),.val (.int 9),.val (.int n)]).bind accO).map D.lst).map _=_
  rw[b3];rfl
 have s7:sSet 6 (gFz (gComp ["_law_k"] [("_law_counters",5),("_law_turns",4)] (.name 0) tYes vo (gR1 (gCons' (gr 3) gNil)))) [some (.val (.scr ns)),some (.val (.int x)),some (.val (.str (mk l))),some (.val (.int n)),some (.val (.lst (ts.map D.int))),some (.val (.lst (ks.map D.int))),none,none,none,none,none,none,none,none]=some (.next [some (.val (.scr ns)),some (.val (.int x)),some (.val (.str (mk l))),some (.val (.int n)),some (.val (.lst (ts.map D.int))),some (.val (.lst (ks.map D.int))),some (.val (.lst (rs.map rowD))),none,none,none,none,none,none,none]):=by
  have hB:-BIG<=(n:Int)/\(n:Int)<=BIG:=by unfold BIG;omega
  have tn:n<=TOP:=yo (by omega)
  generalize rs.map rowD=X at *
  generalize ts.map D.int=T at *
  generalize ks.map D.int=U at *
  simp[qE,hB,tn] at rc' ⊢
  simp[rc']
 have s8:sSet 7 (g2 fMod (g2 fDiv (gCall (len? 2 zy) frzO (nCons (gn 0) (nCons (gVal (gc (.int 4))) nNil))) (gc (.int 8))) (g2 fPlus (gr 3) (gc (.int 1)))) [some (.val (.scr ns)),some (.val (.int x)),some (.val (.str (mk l))),some (.val (.int n)),some (.val (.lst (ts.map D.int))),some (.val (.lst (ks.map D.int))),some (.val (.lst (rs.map rowD))),none,none,none,none,none,none,none]=some (.next [some (.val (.scr ns)),some (.val (.int x)),some (.val (.str (mk l))),some (.val (.int n)),some (.val (.lst (ts.map D.int))),some (.val (.lst (ks.map D.int))),some (.val (.lst (rs.map rowD))),some (.val (.int a)),none,none,none,none,none,none]):=by
  have c:gCall (len? 2 zy) frzO (nCons (gn 0) (nCons (gVal (gc (.int 4))) nNil)) [some (.val (.scr ns)),some (.val (.int x)),some (.val (.str (mk l))),some (.val (.int n)),some (.val (.lst (ts.map D.int))),some (.val (.lst (ks.map D.int))),some (.val (.lst (rs.map rowD))),none,none,none,none,none,none,none]=some (.int (ns.getD 4 0)):=v9 (ns:=ns) (ρ:=[some (.val (.scr ns)),some (.val (.int x)),some (.val (.str (mk l))),some (.val (.int n)),some (.val (.lst (ts.map D.int))),some (.val (.lst (ks.map D.int))),some (.val (.lst (rs.map rowD))),none,none,none,none,none,none,none]) rfl 4
  have ea':ns.getD 4 0 / 8 % ((n:Int)+1)=(a:Int):=ea
  unfold sSet
  rw[y8,y8,c]
  show (((fDiv (.int (ns.getD 4 0)) (.int 8)).bind λy=>fMod y (.int ((n:Int)+1)))).map _=_
  rw[yP (by decide) (by decide),Option.bind_some,yd (by omega),ea'];rfl
 have s9:sSet 8 (gCall (len? 1 yK) frzO (nCons (gVal (gCall (len? 2 zy) frzO (nCons (gn 0) (nCons (gVal (gc (.int 7))) nNil)))) nNil)) [some (.val (.scr ns)),some (.val (.int x)),some (.val (.str (mk l))),some (.val (.int n)),some (.val (.lst (ts.map D.int))),some (.val (.lst (ks.map D.int))),some (.val (.lst (rs.map rowD))),some (.val (.int a)),none,none,none,none,none,none]=some (.next [some (.val (.scr ns)),some (.val (.int x)),some (.val (.str (mk l))),some (.val (.int n)),some (.val (.lst (ts.map D.int))),some (.val (.lst (ks.map D.int))),some (.val (.lst (rs.map rowD))),some (.val (.int a)),some (.val bad),none,none,none,none,none]):=by
  have c:gCall (len? 2 zy) frzO (nCons (gn 0) (nCons (gVal (gc (.int 7))) nNil)) [some (.val (.scr ns)),some (.val (.int x)),some (.val (.str (mk l))),some (.val (.int n)),some (.val (.lst (ts.map D.int))),some (.val (.lst (ks.map D.int))),some (.val (.lst (rs.map rowD))),some (.val (.int a)),none,none,none,none,none,none]=some (.int (ns.getD 7 0)):=v9 (ns:=ns) (ρ:=[some (.val (.scr ns)),some (.val (.int x)),some (.val (.str (mk l))),some (.val (.int n)),some (.val (.lst (ts.map D.int))),some (.val (.lst (ks.map D.int))),some (.val (.lst (rs.map rowD))),some (.val (.int a)),none,none,none,none,none,none]) rfl 7
  have e:nCons (gVal (gCall (len? 2 zy) frzO (nCons (gn 0) (nCons (gVal (gc (.int 7))) nNil)))) nNil [some (.val (.scr ns)),some (.val (.int x)),some (.val (.str (mk l))),some (.val (.int n)),some (.val (.lst (ts.map D.int))),some (.val (.lst (ks.map D.int))),some (.val (.lst (rs.map rowD))),some (.val (.int a)),none,none,none,none,none,none]=some [.val (.int (ns.getD 7 0))]:=nC (uy c) rfl
  unfold sSet gCall at *
  rw[e]
  show ((yK [.val (.int (ns.getD 7 0))]).bind frzO).map _=_
  rw[e8];rfl
 have s10:sSet 9 (gFz (gLst (gCons' (gFz (g2 fCatS (gFz (g2 fCatS (gFz (gSl (gr 6) gNone (gSome (gr 7)))) (gFz (gLst (gCons' (gv 8) gNil))))) (gFz (gSl (gr 6) (gSome (gr 7)) gNone)))) (gCons' (gB fTupL (gCons' (gr 6) gNil)) (gCons' (gc .non) (gCons' (gc (.int 5)) (gCons' (gc (.str "a")) (gCons' (gc .emp) (gCons' (g2 fItem (gr 6) (gc (.int 0))) (gCons' (gFz (g2 fRep (gFz (gLst (gCons' (gTup' (gCons' (gc (.int 1)) (gCons' (gc (.int 1)) gNil))) gNil))) (gc (.int 17)))) gNil)))))))))) [some (.val (.scr ns)),some (.val (.int x)),some (.val (.str (mk l))),some (.val (.int n)),some (.val (.lst (ts.map D.int))),some (.val (.lst (ks.map D.int))),some (.val (.lst (rs.map rowD))),some (.val (.int a)),some (.val bad),none,none,none,none,none]=some (.next [some (.val (.scr ns)),some (.val (.int x)),some (.val (.str (mk l))),some (.val (.int n)),some (.val (.lst (ts.map D.int))),some (.val (.lst (ks.map D.int))),some (.val (.lst (rs.map rowD))),some (.val (.int a)),some (.val bad),some (.val (.lst L)),none,none,none,none]):=by
  have i0:atI (rs.map rowD) 0=some (rowD r0):=atI_nat (i:=0) (by rw[hr0];rfl)
  have c1:Dv.cutD (rs.map rowD) none (some (a:Int))=(rs.take a).map rowD:=by rw[Ql (by omega),<-List.map_take];rfl
  have c2:Dv.cutD (rs.map rowD) (some (a:Int)) none=(rs.drop a).map rowD:=by rw[Vw (by omega),<-List.map_drop];rfl
  have q1:gFz (gSl (gr 6) gNone (gSome (gr 7))) [some (.val (.scr ns)),some (.val (.int x)),some (.val (.str (mk l))),some (.val (.int n)),some (.val (.lst (ts.map D.int))),some (.val (.lst (ks.map D.int))),some (.val (.lst (rs.map rowD))),some (.val (.int a)),some (.val bad),none,none,none,none,none]=some (.lst ((rs.take a).map rowD)):=by
   show (some (Dv.cutD (rs.map rowD) none (some (a:Int)))).map D.lst=_
   rw[c1];rfl
  have q2:gFz (gSl (gr 6) (gSome (gr 7)) gNone) [some (.val (.scr ns)),some (.val (.int x)),some (.val (.str (mk l))),some (.val (.int n)),some (.val (.lst (ts.map D.int))),some (.val (.lst (ks.map D.int))),some (.val (.lst (rs.map rowD))),some (.val (.int a)),some (.val bad),none,none,none,none,none]=some (.lst ((rs.drop a).map rowD)):=by
   show (some (Dv.cutD (rs.map rowD) (some (a:Int)) none)).map D.lst=_
   rw[c2];rfl
  have l1:((rs.take a).map rowD).length+1<=TOP:=yo (by simp;omega)
  have l2:((rs.take a).map rowD++[bad]).length+((rs.drop a).map rowD).length<=TOP:=yo (by simp;omega)
  have q3:gFz (g2 fCatS (gFz (gSl (gr 6) gNone (gSome (gr 7)))) (gFz (gLst (gCons' (gv 8) gNil)))) [some (.val (.scr ns)),some (.val (.int x)),some (.val (.str (mk l))),some (.val (.int n)),some (.val (.lst (ts.map D.int))),some (.val (.lst (ks.map D.int))),some (.val (.lst (rs.map rowD))),some (.val (.int a)),some (.val bad),none,none,none,none,none]=some (.lst ((rs.take a).map rowD++[bad])):=by
   show (((gFz (gSl (gr 6) gNone (gSome (gr 7))) [some (.val (.scr ns)),some (.val (.int x)),some (.val (.str (mk l))),some (.val (.int n)),some (.val (.lst (ts.map D.int))),some (.val (.lst (ks.map D.int))),some (.val (.lst (rs.map rowD))),some (.val (.int a)),some (.val bad),none,none,none,none,none]).bind λy=>(some (D.lst [bad])).bind λz=>fCatS y z)).map D.lst=_
   rw[q1]
   show ((if ((rs.take a).map rowD).length+1<=TOP then some ((rs.take a).map rowD++[bad]) else none):Option (List D)).map D.lst=_
   rw[if_pos l1];rfl
  have q4:gFz (g2 fCatS (gFz (g2 fCatS (gFz (gSl (gr 6) gNone (gSome (gr 7)))) (gFz (gLst (gCons' (gv 8) gNil))))) (gFz (gSl (gr 6) (gSome (gr 7)) gNone))) [some (.val (.scr ns)),some (.val (.int x)),some (.val (.str (mk l))),some (.val (.int n)),some (.val (.lst (ts.map D.int))),some (.val (.lst (ks.map D.int))),some (.val (.lst (rs.map rowD))),some (.val (.int a)),some (.val bad),none,none,none,none,none]=some (.lst ((rs.take a).map rowD++[bad]++(rs.drop a).map rowD)):=by
   show (((gFz (g2 fCatS (gFz (gSl (gr 6) gNone (gSome (gr 7)))) (gFz (gLst (gCons' (gv 8) gNil)))) [some (.val (.scr ns)),some (.val (.int x)),some (.val (.str (mk l))),some (.val (.int n)),some (.val (.lst (ts.map D.int))),some (.val (.lst (ks.map D.int))),some (.val (.lst (rs.map rowD))),some (.val (.int a)),some (.val bad),none,none,none,none,none]).bind λy=>(gFz (gSl (gr 6) (gSome (gr 7)) gNone) [some (.val (.scr ns)),some (.val (.int x)),some (.val (.str (mk l))),some (.val (.int n)),some (.val (.lst (ts.map D.int))),some (.val (.lst (ks.map D.int))),some (.val (.lst (rs.map rowD))),some (.val (.int a)),some (.val bad),none,none,none,none,none]).bind λz=>fCatS y z)).map D.lst=_
   rw[q3,q2]
   show ((if ((rs.take a).map rowD++[bad]).length+((rs.drop a).map rowD).length<=TOP then some ((rs.take a).map rowD++[bad]++(rs.drop a).map rowD) else none):Option (List D)).map D.lst=_
   rw[if_pos l2];rfl
  have q5:g2 fItem (gr 6) (gc (.int 0)) [some (.val (.scr ns)),some (.val (.int x)),some (.val (.str (mk l))),some (.val (.int n)),some (.val (.lst (ts.map D.int))),some (.val (.lst (ks.map D.int))),some (.val (.lst (rs.map rowD))),some (.val (.int a)),some (.val bad),none,none,none,none,none]=some (rowD r0):=i0
  have q6:∀ρ,gFz (g2 fRep (gFz (gLst (gCons' (gTup' (gCons' (gc (.int 1)) (gCons' (gc (.int 1)) gNil))) gNil))) (gc (.int 17))) ρ=some (.lst (List.replicate 17 (D.tup [.int 1,.int 1]))):=λρ=>rfl
  have q7:gB fTupL (gCons' (gr 6) gNil) [some (.val (.scr ns)),some (.val (.int x)),some (.val (.str (mk l))),some (.val (.int n)),some (.val (.lst (ts.map D.int))),some (.val (.lst (ks.map D.int))),some (.val (.lst (rs.map rowD))),some (.val (.int a)),some (.val bad),none,none,none,none,none]=some (.tup (rs.map rowD)):=rfl
  have t8:8<=TOP:=by decide
  rw[<-hL]
  exact QU (gC q4 (gC q7 (gC rfl (gC rfl (gC rfl (gC rfl (gC q5 (gC (q6 _) (show Dv.gNil _=some [] from rfl))))))))) t8
 have s11:sFor (.name 10) (gIt (gf 9)) (vd C) [some (.val (.scr ns)),some (.val (.int x)),some (.val (.str (mk l))),some (.val (.int n)),some (.val (.lst (ts.map D.int))),some (.val (.lst (ks.map D.int))),some (.val (.lst (rs.map rowD))),some (.val (.int a)),some (.val bad),some (.val (.lst L)),none,none,none,none]=some (.next [some (.val (.scr ns)),some (.val (.int x)),some (.val (.str (mk l))),some (.val (.int n)),some (.val (.lst (ts.map D.int))),some (.val (.lst (ks.map D.int))),some (.val (.lst (rs.map rowD))),some (.val (.int a)),some (.val bad),some (.val (.lst L)),o10,none,none,none]):=by
  exact e10
 have s12:sSet 11 (gFz (gB fList (gCons' (gr 6) gNil))) [some (.val (.scr ns)),some (.val (.int x)),some (.val (.str (mk l))),some (.val (.int n)),some (.val (.lst (ts.map D.int))),some (.val (.lst (ks.map D.int))),some (.val (.lst (rs.map rowD))),some (.val (.int a)),some (.val bad),some (.val (.lst L)),o10,none,none,none]=some (.next [some (.val (.scr ns)),some (.val (.int x)),some (.val (.str (mk l))),some (.val (.int n)),some (.val (.lst (ts.map D.int))),some (.val (.lst (ks.map D.int))),some (.val (.lst (rs.map rowD))),some (.val (.int a)),some (.val bad),some (.val (.lst L)),o10,some (.val (.lst (rs.map rowD))),none,none]):=by
  rfl
 have s13:sIf (gOr (gNot (gt (gCall (len? 2 (yZ C)) frzO (nCons (gn 6) (nCons (gVal (gCall (len? 3 yu) frzO (nCons (gVal (gCall (len? 2 zy) frzO (nCons (gn 0) (nCons (gVal (gc (.int 8))) nNil)))) (nCons (gVal (gc (.int 1))) (nCons (gVal (gc (.int 8))) nNil))))) nNil))))) (gb' (g2 (fEq true) (gr 6) (gr 11)))) (sRet (gc (.bl false))) sNext [some (.val (.scr ns)),some (.val (.int x)),some (.val (.str (mk l))),some (.val (.int n)),some (.val (.lst (ts.map D.int))),some (.val (.lst (ks.map D.int))),some (.val (.lst (rs.map rowD))),some (.val (.int a)),some (.val bad),some (.val (.lst L)),o10,some (.val (.lst (rs.map rowD))),none,none]=some (.next [some (.val (.scr ns)),some (.val (.int x)),some (.val (.str (mk l))),some (.val (.int n)),some (.val (.lst (ts.map D.int))),some (.val (.lst (ks.map D.int))),some (.val (.lst (rs.map rowD))),some (.val (.int a)),some (.val bad),some (.val (.lst L)),o10,some (.val (.lst (rs.map rowD))),none,none]):=by
  have c:gCall (len? 2 zy) frzO (nCons (gn 0) (nCons (gVal (gc (.int 8))) nNil)) [some (.val (.scr ns)),some (.val (.int x)),some (.val (.str (mk l))),some (.val (.int n)),some (.val (.lst (ts.map D.int))),some (.val (.lst (ks.map D.int))),some (.val (.lst (rs.map rowD))),some (.val (.int a)),some (.val bad),some (.val (.lst L)),o10,some (.val (.lst (rs.map rowD))),none,none]=some (.int (ns.getD 8 0)):=v9 (ns:=ns) (ρ:=[some (.val (.scr ns)),some (.val (.int x)),some (.val (.str (mk l))),some (.val (.int n)),some (.val (.lst (ts.map D.int))),some (.val (.lst (ks.map D.int))),some (.val (.lst (rs.map rowD))),some (.val (.int a)),some (.val bad),some (.val (.lst L)),o10,some (.val (.lst (rs.map rowD))),none,none]) rfl 8
  refine ZX ?_ ?_
  ·have e:nCons (gVal (gCall (len? 2 zy) frzO (nCons (gn 0) (nCons (gVal (gc (.int 8))) nNil)))) (nCons (gVal (gc (.int 1))) (nCons (gVal (gc (.int 8))) nNil)) [some (.val (.scr ns)),some (.val (.int x)),some (.val (.str (mk l))),some (.val (.int n)),some (.val (.lst (ts.map D.int))),some (.val (.lst (ks.map D.int))),some (.val (.lst (rs.map rowD))),some (.val (.int a)),some (.val bad),some (.val (.lst L)),o10,some (.val (.lst (rs.map rowD))),none,none]=some [.val (.int (ns.getD 8 0)),.val (.int 1),.val (.int 8)]:=nC (uy c) rfl
   have e':nCons (gn 6) (nCons (gVal (gCall (len? 3 yu) frzO (nCons (gVal (gCall (len? 2 zy) frzO (nCons (gn 0) (nCons (gVal (gc (.int 8))) nNil)))) (nCons (gVal (gc (.int 1))) (nCons (gVal (gc (.int 8))) nNil))))) nNil) [some (.val (.scr ns)),some (.val (.int x)),some (.val (.str (mk l))),some (.val (.int n)),some (.val (.lst (ts.map D.int))),some (.val (.lst (ks.map D.int))),some (.val (.lst (rs.map rowD))),some (.val (.int a)),some (.val bad),some (.val (.lst L)),o10,some (.val (.lst (rs.map rowD))),none,none]=some [.val (.lst (rs.map rowD)),.val od]:=nC rfl (nC (by
    show (((nCons (gVal (gCall (len? 2 zy) frzO (nCons (gn 0) (nCons (gVal (gc (.int 8))) nNil)))) (nCons (gVal (gc (.int 1))) (nCons (gVal (gc (.int 8))) nNil)) [some (.val (.scr ns)),some (.val (.int x)),some (.val (.str (mk l))),some (.val (.int n)),some (.val (.lst (ts.map D.int))),some (.val (.lst (ks.map D.int))),some (.val (.lst (rs.map rowD))),some (.val (.int a)),some (.val bad),some (.val (.lst L)),o10,some (.val (.lst (rs.map rowD))),none,none]).bind (len? 3 yu)).bind frzO).map En.val=_
    rw[e]
    show ((yu [.val (.int (ns.getD 8 0)),.val (.int 1),.val (.int 8)]).bind frzO).map En.val=_
    rw[e13];rfl) rfl)
   show (((nCons (gn 6) (nCons (gVal (gCall (len? 3 yu) frzO (nCons (gVal (gCall (len? 2 zy) frzO (nCons (gn 0) (nCons (gVal (gc (.int 8))) nNil)))) (nCons (gVal (gc (.int 1))) (nCons (gVal (gc (.int 8))) nNil))))) nNil) [some (.val (.scr ns)),some (.val (.int x)),some (.val (.str (mk l))),some (.val (.int n)),some (.val (.lst (ts.map D.int))),some (.val (.lst (ks.map D.int))),some (.val (.lst (rs.map rowD))),some (.val (.int a)),some (.val bad),some (.val (.lst L)),o10,some (.val (.lst (rs.map rowD))),none,none]).bind (len? 2 (yZ C))).bind frzO).bind truD=_
   rw[e']
   show ((yZ C [.val (.lst (rs.map rowD)),.val od]).bind frzO).bind truD=_
   rw[rodd];rfl
  ·show (fEq true (.lst (rs.map rowD)) (.lst (rs.map rowD))).bind asB=_
   rw[Zz];rfl
 have s14:sSet 12 (gMake (C "Hours") 2 (y1 C) (nCons (gn 6) (nCons (gVal (gc (.int 8))) nNil))) [some (.val (.scr ns)),some (.val (.int x)),some (.val (.str (mk l))),some (.val (.int n)),some (.val (.lst (ts.map D.int))),some (.val (.lst (ks.map D.int))),some (.val (.lst (rs.map rowD))),some (.val (.int a)),some (.val bad),some (.val (.lst L)),o10,some (.val (.lst (rs.map rowD))),none,none]=some (.next [some (.val (.scr ns)),some (.val (.int x)),some (.val (.str (mk l))),some (.val (.int n)),some (.val (.lst (ts.map D.int))),some (.val (.lst (ks.map D.int))),some (.val (.lst (rs.map rowD))),some (.val (.int a)),some (.val bad),some (.val (.lst L)),o10,some (.val (.lst (rs.map rowD))),some (.val (hoursD (C "Hours") 8 (krows 8 rs))),none]):=by
  show ((y1 C [.val (.lst (rs.map rowD)),.val (.int 8)]).map λr=>D.obj (C "Hours") r.1 r.2).map _=_
  rw[i8];rfl
 have s15:sSet 13 (gMake (C "Hours") 2 (y1 C) (nCons (gVal (gFz (gComp ["_law_k"] [] (.name 0) tYes vk (gR1 (gCons' (gc (.int 16)) gNil))))) (nCons (gVal (gc (.int 1))) nNil))) [some (.val (.scr ns)),some (.val (.int x)),some (.val (.str (mk l))),some (.val (.int n)),some (.val (.lst (ts.map D.int))),some (.val (.lst (ks.map D.int))),some (.val (.lst (rs.map rowD))),some (.val (.int a)),some (.val bad),some (.val (.lst L)),o10,some (.val (.lst (rs.map rowD))),some (.val (hoursD (C "Hours") 8 (krows 8 rs))),none]=some (.next [some (.val (.scr ns)),some (.val (.int x)),some (.val (.str (mk l))),some (.val (.int n)),some (.val (.lst (ts.map D.int))),some (.val (.lst (ks.map D.int))),some (.val (.lst (rs.map rowD))),some (.val (.int a)),some (.val bad),some (.val (.lst L)),o10,some (.val (.lst (rs.map rowD))),some (.val (hoursD (C "Hours") 8 (krows 8 rs))),some (.val (hoursD (C "Hours") 1 rows16))]):=by
  have e:nCons (gVal (gFz (gComp ["_law_k"] [] (.name 0) tYes vk (gR1 (gCons' (gc (.int 16)) gNil))))) (nCons (gVal (gc (.int 1))) nNil) [some (.val (.scr ns)),some (.val (.int x)),some (.val (.str (mk l))),some (.val (.int n)),some (.val (.lst (ts.map D.int))),some (.val (.lst (ks.map D.int))),some (.val (.lst (rs.map rowD))),some (.val (.int a)),some (.val bad),some (.val (.lst L)),o10,some (.val (.lst (rs.map rowD))),some (.val (hoursD (C "Hours") 8 (krows 8 rs))),none]=some [.val (.lst (rows16.map rowD)),.val (.int 1)]:=nC (by
   show (((compD (.name 0) tYes vk [none] (rngD 0 16))).map D.lst).map En.val=_
   rw[comp16];rfl) rfl
  unfold sSet gMake
  rw[e]
  show ((y1 C [.val (.lst (rows16.map rowD)),.val (.int 1)]).map λr=>D.obj (C "Hours") r.1 r.2).map _=_
  rw[i16];rfl
 have fin:sRet (gAndV (g2 (fEq false) (gr 6) (gr 11)) (gAndV (g2 (fEq false) (gMeth (C "Hours") "rest" (len? 1 (yQ C)) frzO (gv 12) nNil) (gc (.int 8))) (gAndV (g2 (fEq false) (gMeth (C "Hours") "end" (len? 1 (yG C)) frzO (gv 13) nNil) (gc (.int 1600))) (g2 (fEq false) (gMeth (C "Hours") "at" (len? 2 (y4 C)) frzO (gv 13) (nCons (gVal (gc (.int 1599))) nNil)) (gc (.int 8)))))) [some (.val (.scr ns)),some (.val (.int x)),some (.val (.str (mk l))),some (.val (.int n)),some (.val (.lst (ts.map D.int))),some (.val (.lst (ks.map D.int))),some (.val (.lst (rs.map rowD))),some (.val (.int a)),some (.val bad),some (.val (.lst L)),o10,some (.val (.lst (rs.map rowD))),some (.val (hoursD (C "Hours") 8 (krows 8 rs))),some (.val (hoursD (C "Hours") 1 rows16))]=some (.ret (.val (.bl true))):=by
  have v1:g2 (fEq false) (gr 6) (gr 11) [some (.val (.scr ns)),some (.val (.int x)),some (.val (.str (mk l))),some (.val (.int n)),some (.val (.lst (ts.map D.int))),some (.val (.lst (ks.map D.int))),some (.val (.lst (rs.map rowD))),some (.val (.int a)),some (.val bad),some (.val (.lst L)),o10,some (.val (.lst (rs.map rowD))),some (.val (hoursD (C "Hours") 8 (krows 8 rs))),some (.val (hoursD (C "Hours") 1 rows16))]=some (.bl true):=by
   show fEq false (.lst (rs.map rowD)) (.lst (rs.map rowD))=_
   rw[Zz];rfl
  have m1:gMeth (C "Hours") "rest" (len? 1 (yQ C)) frzO (gv 12) nNil [some (.val (.scr ns)),some (.val (.int x)),some (.val (.str (mk l))),some (.val (.int n)),some (.val (.lst (ts.map D.int))),some (.val (.lst (ks.map D.int))),some (.val (.lst (rs.map rowD))),some (.val (.int a)),some (.val bad),some (.val (.lst L)),o10,some (.val (.lst (rs.map rowD))),some (.val (hoursD (C "Hours") 8 (krows 8 rs))),some (.val (hoursD (C "Hours") 1 rows16))]=some (.int 8):=by
   rw[jI (rest:=8) (ks:=krows 8 rs) (xs:=[]) rfl (by decide +kernel) (by decide +kernel) rfl]
   show (yQ C [.val (hoursD (C "Hours") 8 (krows 8 rs))]).bind frzO=_
   rw[W1];rfl
  have m2:gMeth (C "Hours") "end" (len? 1 (yG C)) frzO (gv 13) nNil [some (.val (.scr ns)),some (.val (.int x)),some (.val (.str (mk l))),some (.val (.int n)),some (.val (.lst (ts.map D.int))),some (.val (.lst (ks.map D.int))),some (.val (.lst (rs.map rowD))),some (.val (.int a)),some (.val bad),some (.val (.lst L)),o10,some (.val (.lst (rs.map rowD))),some (.val (hoursD (C "Hours") 8 (krows 8 rs))),some (.val (hoursD (C "Hours") 1 rows16))]=some (.int 1600):=by
   rw[jI (rest:=1) (ks:=rows16) (xs:=[]) rfl (by decide +kernel) (by decide +kernel) rfl]
   show (yG C [.val (hoursD (C "Hours") 1 rows16)]).bind frzO=_
   rw[end16];rfl
  have m3:gMeth (C "Hours") "at" (len? 2 (y4 C)) frzO (gv 13) (nCons (gVal (gc (.int 1599))) nNil) [some (.val (.scr ns)),some (.val (.int x)),some (.val (.str (mk l))),some (.val (.int n)),some (.val (.lst (ts.map D.int))),some (.val (.lst (ks.map D.int))),some (.val (.lst (rs.map rowD))),some (.val (.int a)),some (.val bad),some (.val (.lst L)),o10,some (.val (.lst (rs.map rowD))),some (.val (hoursD (C "Hours") 8 (krows 8 rs))),some (.val (hoursD (C "Hours") 1 rows16))]=some (.int 8):=by
   rw[jI (rest:=1) (ks:=rows16) (xs:=[.val (.int 1599)]) rfl (by decide +kernel) (by decide +kernel) rfl]
   show (y4 C [.val (hoursD (C "Hours") 1 rows16),.val (.int 1599)]).bind frzO=_
   rw[at16];rfl
  have v2:g2 (fEq false) (gMeth (C "Hours") "rest" (len? 1 (yQ C)) frzO (gv 12) nNil) (gc (.int 8)) [some (.val (.scr ns)),some (.val (.int x)),some (.val (.str (mk l))),some (.val (.int n)),some (.val (.lst (ts.map D.int))),some (.val (.lst (ks.map D.int))),some (.val (.lst (rs.map rowD))),some (.val (.int a)),some (.val bad),some (.val (.lst L)),o10,some (.val (.lst (rs.map rowD))),some (.val (hoursD (C "Hours") 8 (krows 8 rs))),some (.val (hoursD (C "Hours") 1 rows16))]=some (.bl true):=by rw[y8,m1];exact js 8
  have v3:g2 (fEq false) (gMeth (C "Hours") "end" (len? 1 (yG C)) frzO (gv 13) nNil) (gc (.int 1600)) [some (.val (.scr ns)),some (.val (.int x)),some (.val (.str (mk l))),some (.val (.int n)),some (.val (.lst (ts.map D.int))),some (.val (.lst (ks.map D.int))),some (.val (.lst (rs.map rowD))),some (.val (.int a)),some (.val bad),some (.val (.lst L)),o10,some (.val (.lst (rs.map rowD))),some (.val (hoursD (C "Hours") 8 (krows 8 rs))),some (.val (hoursD (C "Hours") 1 rows16))]=some (.bl true):=by rw[y8,m2];exact js 1600
  have v4:g2 (fEq false) (gMeth (C "Hours") "at" (len? 2 (y4 C)) frzO (gv 13) (nCons (gVal (gc (.int 1599))) nNil)) (gc (.int 8)) [some (.val (.scr ns)),some (.val (.int x)),some (.val (.str (mk l))),some (.val (.int n)),some (.val (.lst (ts.map D.int))),some (.val (.lst (ks.map D.int))),some (.val (.lst (rs.map rowD))),some (.val (.int a)),some (.val bad),some (.val (.lst L)),o10,some (.val (.lst (rs.map rowD))),some (.val (hoursD (C "Hours") 8 (krows 8 rs))),some (.val (hoursD (C "Hours") 1 rows16))]=some (.bl true):=by rw[y8,m3];exact js 8
  show (gAndV _ _ [some (.val (.scr ns)),some (.val (.int x)),some (.val (.str (mk l))),some (.val (.int n)),some (.val (.lst (ts.map D.int))),some (.val (.lst (ks.map D.int))),some (.val (.lst (rs.map rowD))),some (.val (.int a)),some (.val bad),some (.val (.lst L)),o10,some (.val (.lst (rs.map rowD))),some (.val (hoursD (C "Hours") 8 (krows 8 rs))),some (.val (hoursD (C "Hours") 1 rows16))]).map (λd=>Fl.ret (.val d))=_
  rw[qF v1,qF v2,qF v3,v4];rfl
 show outO (vS C [some (.val (.scr ns)),none,none,none,none,none,none,none,none,none,none,none,none,none])=_
 unfold vS
 rw[zG s1,zG s2,zG s3,zG s4,zG s5,zG s6,zG s7,zG s8,zG s9,zG s10,zG s11,zG s12,zG s13,zG s14,zG s15,fin]
 rfl
end
end My
namespace My
open PySem PySem.Spec L2 L3 L4 L6 Dv
open PyProof.Rows hiding St
def spOut (K:PySem.W.Frag):Sp:=λvs H Q _=>∃(a:Addr) (ns:List Int),vs=[.ref a]/\SqL K H a (ns.map V.int)/\ns.length<=63/\∀H',Q (.bl true) H'
theorem Kk {P:Program}{w:World}{K:PySem.W.Frag}{mg:Str->Option Value}{base:Heap}{k:Nat}{f:Addr}{fd:FuncData}{ps:List Str}{m:List En->Option En}(h:FnOk P w K mg base CX0 k f fd ps (pSp ⟨K,w⟩ 1 (len? 1 m)))
  (hm:∀ns:List Int,ns.length<=63->m [.val (.scr ns)]=some (.val (.bl true))):FnOk P w K mg base CX0 k f fd ps (spOut K) :=
 h.imp λvs H Q E ⟨a,ns,e,hs,hl,q⟩=>⟨H,[.val (.scr ns)],.val (.bl true),Same.refl _,rfl,by subst e;exact .cons ⟨a,rfl,hs⟩ .nil,hm ns hl,λv F' H' _ r=>by cases r;exact q H'⟩
theorem bdE {P:List Value->Prop}(h:P []):∀us:List Value,us.length=0->P us
 | [],_=>h
theorem bdC {P:List Value->Prop}{n:Nat}(h:∀a,∀us:List Value,us.length=n->P (a::us)):∀us:List Value,us.length=n+1->P us
 |a::us,q=>h a us (Nat.succ.inj q)
theorem bd1 {fd:FuncData}{ps:List Str}(h:∀a0,bindArgs fd ⟨[a0],[]⟩=pure (ps.zip [a0])):∀us:List Value,us.length=1->bindArgs fd ⟨us,[]⟩=pure (ps.zip us):=bdC λa0=>bdE (h a0)
theorem bd2 {fd:FuncData}{ps:List Str}(h:∀a0 a1,bindArgs fd ⟨[a0,a1],[]⟩=pure (ps.zip [a0,a1])):∀us:List Value,us.length=2->bindArgs fd ⟨us,[]⟩=pure (ps.zip us):=bdC λa0=>bdC λa1=>bdE (h a0 a1)
theorem bd3 {fd:FuncData}{ps:List Str}(h:∀a0 a1 a2,bindArgs fd ⟨[a0,a1,a2],[]⟩=pure (ps.zip [a0,a1,a2])):∀us:List Value,us.length=3->bindArgs fd ⟨us,[]⟩=pure (ps.zip us):=bdC λa0=>bdC λa1=>bdC λa2=>bdE (h a0 a1 a2)
theorem bd4 {fd:FuncData}{ps:List Str}(h:∀a0 a1 a2 a3,bindArgs fd ⟨[a0,a1,a2,a3],[]⟩=pure (ps.zip [a0,a1,a2,a3])):∀us:List Value,us.length=4->bindArgs fd ⟨us,[]⟩=pure (ps.zip us):=bdC λa0=>bdC λa1=>bdC λa2=>bdC λa3=>bdE (h a0 a1 a2 a3)
set_option maxHeartbeats 0 in
set_option autoImplicit true in
theorem all_mk {l:PySem.W.OpenLaw}{w:World}{K:PySem.W.Frag}{h:Heap}{mg:Str->Option Value}{fa:Addr}(X:K.In h)(G:h.Ns mainGlobals mg)(hfa:mg "law" = some (.ref fa))
  {C_Hours C_Doubled C_Taken C_NoTicket C_NotBegun C_NoBooking C_NotKept C_NoCounter C_TooMany C_NoName C_NoNumber C_NoHours C_NoLine C_NoBreak C_HallError:Addr}
  {fI_Doubled:Addr} {odI_Doubled anI_Doubled:Option Addr} {slI_Doubled:Array (Option Value)} {kVI_Doubled dcI_Doubled pmI_Doubled cdI_Doubled ctI_Doubled:Value}
  {dd_Doubled:Option Addr} {cd_Doubled:ClassData} {k0_Doubled k1_Doubled k2_Doubled k3_Doubled k5_Doubled:Option Value} {bm_Doubled:List Value}
  {fI_NoBooking:Addr} {odI_NoBooking anI_NoBooking:Option Addr} {slI_NoBooking:Array (Option Value)} {kVI_NoBooking dcI_NoBooking pmI_NoBooking cdI_NoBooking ctI_NoBooking:Value}
  {dd_NoBooking:Option Addr} {cd_NoBooking:ClassData} {k0_NoBooking k1_NoBooking k2_NoBooking k3_NoBooking k5_NoBooking:Option Value} {bm_NoBooking:List Value}
  {fI_NoCounter:Addr} {odI_NoCounter anI_NoCounter:Option Addr} {slI_NoCounter:Array (Option Value)} {kVI_NoCounter dcI_NoCounter pmI_NoCounter cdI_NoCounter ctI_NoCounter:Value}
  {dd_NoCounter:Option Addr} {cd_NoCounter:ClassData} {k0_NoCounter k1_NoCounter k2_NoCounter k3_NoCounter k5_NoCounter:Option Value} {bm_NoCounter:List Value}
  {fI_NoTicket:Addr} {odI_NoTicket anI_NoTicket:Option Addr} {slI_NoTicket:Array (Option Value)} {kVI_NoTicket dcI_NoTicket pmI_NoTicket cdI_NoTicket ctI_NoTicket:Value}
  {dd_NoTicket:Option Addr} {cd_NoTicket:ClassData} {k0_NoTicket k1_NoTicket k2_NoTicket k3_NoTicket k5_NoTicket:Option Value} {bm_NoTicket:List Value}
  {fI_NotBegun:Addr} {odI_NotBegun anI_NotBegun:Option Addr} {slI_NotBegun:Array (Option Value)} {kVI_NotBegun dcI_NotBegun pmI_NotBegun cdI_NotBegun ctI_NotBegun:Value}
  {dd_NotBegun:Option Addr} {cd_NotBegun:ClassData} {k0_NotBegun k1_NotBegun k2_NotBegun k3_NotBegun k5_NotBegun:Option Value} {bm_NotBegun:List Value}
  {fI_NotKept:Addr} {odI_NotKept anI_NotKept:Option Addr} {slI_NotKept:Array (Option Value)} {kVI_NotKept dcI_NotKept pmI_NotKept cdI_NotKept ctI_NotKept:Value}
  {dd_NotKept:Option Addr} {cd_NotKept:ClassData} {k0_NotKept k1_NotKept k2_NotKept k3_NotKept k5_NotKept:Option Value} {bm_NotKept:List Value}
  {fI_Taken:Addr} {odI_Taken anI_Taken:Option Addr} {slI_Taken:Array (Option Value)} {kVI_Taken dcI_Taken pmI_Taken cdI_Taken ctI_Taken:Value}
  {dd_Taken:Option Addr} {cd_Taken:ClassData} {k0_Taken k1_Taken k2_Taken k3_Taken k5_Taken:Option Value} {bm_Taken:List Value}
  {fI_NoBreak:Addr} {odI_NoBreak anI_NoBreak:Option Addr} {slI_NoBreak:Array (Option Value)} {kVI_NoBreak dcI_NoBreak pmI_NoBreak cdI_NoBreak ctI_NoBreak:Value}
  {dd_NoBreak:Option Addr} {cd_NoBreak:ClassData} {k0_NoBreak k1_NoBreak k2_NoBreak k3_NoBreak k5_NoBreak:Option Value} {bm_NoBreak:List Value}
  {dd_NoHours:Option Addr} {cd_NoHours:ClassData} {k0_NoHours k1_NoHours k2_NoHours k3_NoHours k5_NoHours:Option Value} {bm_NoHours:List Value}
  {dd_NoLine:Option Addr} {cd_NoLine:ClassData} {k0_NoLine k1_NoLine k2_NoLine k3_NoLine k5_NoLine:Option Value} {bm_NoLine:List Value}
  {dd_NoName:Option Addr} {cd_NoName:ClassData} {k0_NoName k1_NoName k2_NoName k3_NoName k5_NoName:Option Value} {bm_NoName:List Value}
  {dd_NoNumber:Option Addr} {cd_NoNumber:ClassData} {k0_NoNumber k1_NoNumber k2_NoNumber k3_NoNumber k5_NoNumber:Option Value} {bm_NoNumber:List Value}
  {dd_TooMany:Option Addr} {cd_TooMany:ClassData} {k0_TooMany k1_TooMany k2_TooMany k3_TooMany k5_TooMany:Option Value} {bm_TooMany:List Value}
  {t_FIGURES:Tok}
  {t_LETTERS:Tok}
  {t_MOST_COUNTERS:Tok}
  {t_MOST_ROWS:Tok}
  {t_MOST_SIGNS:Tok}
  {t_MOST_TURNS:Tok}
  (tt_Hours:nsIn K mainGlobals "Hours" = some (some (.ref C_Hours)))
  (tt_Doubled:nsIn K mainGlobals "Doubled" = some (some (.ref C_Doubled)))
  (tt_Taken:nsIn K mainGlobals "Taken" = some (some (.ref C_Taken)))
  (tt_NoTicket:nsIn K mainGlobals "NoTicket" = some (some (.ref C_NoTicket)))
  (tt_NotBegun:nsIn K mainGlobals "NotBegun" = some (some (.ref C_NotBegun)))
  (tt_NoBooking:nsIn K mainGlobals "NoBooking" = some (some (.ref C_NoBooking)))
  (tt_NotKept:nsIn K mainGlobals "NotKept" = some (some (.ref C_NotKept)))
  (tt_NoCounter:nsIn K mainGlobals "NoCounter" = some (some (.ref C_NoCounter)))
  (tt_TooMany:nsIn K mainGlobals "TooMany" = some (some (.ref C_TooMany)))
  (tt_NoName:nsIn K mainGlobals "NoName" = some (some (.ref C_NoName)))
  (tt_NoNumber:nsIn K mainGlobals "NoNumber" = some (some (.ref C_NoNumber)))
  (tt_NoHours:nsIn K mainGlobals "NoHours" = some (some (.ref C_NoHours)))
  (tt_NoLine:nsIn K mainGlobals "NoLine" = some (some (.ref C_NoLine)))
  (tt_NoBreak:nsIn K mainGlobals "NoBreak" = some (some (.ref C_NoBreak)))
  (tt_HallError:nsIn K mainGlobals "HallError" = some (some (.ref C_HallError)))
  (a0:nsIn K mainGlobals "is_whole" = some (some (.ref f0)))
  (l0:K.lookup f0=some ⟨oc0,od0,.func (fnOf "is_whole" "is_whole" (zu wm) (zq wm) (ze wm) .none kV0 dc0 pm0 an0 cd0 ct0),sl0⟩)
  (c0:codeIn K cd0 "is_whole" = true)
  (k0:keepIn K (.ref f0)=true)
  (a1:nsIn K mainGlobals "is_number" = some (some (.ref f1)))
  (l1:K.lookup f1=some ⟨oc1,od1,.func (fnOf "is_number" "is_number" (zu w9) (zq w9) (ze w9) .none kV1 dc1 pm1 an1 cd1 ct1),sl1⟩)
  (c1:codeIn K cd1 "is_number" = true)
  (k1:keepIn K (.ref f1)=true)
  (a2:nsIn K mainGlobals "is_name" = some (some (.ref f2)))
  (l2:K.lookup f2=some ⟨oc2,od2,.func (fnOf "is_name" "is_name" (zu xr) (zq xr) (ze xr) .none kV2 dc2 pm2 an2 cd2 ct2),sl2⟩)
  (c2:codeIn K cd2 "is_name" = true)
  (k2:keepIn K (.ref f2)=true)
  (a3:nsIn K mainGlobals "is_row" = some (some (.ref f3)))
  (l3:K.lookup f3=some ⟨oc3,od3,.func (fnOf "is_row" "is_row" (zu xV) (zq xV) (ze xV) .none kV3 dc3 pm3 an3 cd3 ct3),sl3⟩)
  (c3:codeIn K cd3 "is_row" = true)
  (k3:keepIn K (.ref f3)=true)
  (a4:nsIn K mainGlobals "check_hours" = some (some (.ref f4)))
  (l4:K.lookup f4=some ⟨oc4,od4,.func (fnOf "check_hours" "check_hours" (zu y6) (zq y6) (ze y6) .none kV4 dc4 pm4 an4 cd4 ct4),sl4⟩)
  (c4:codeIn K cd4 "check_hours" = true)
  (k4:keepIn K (.ref f4)=true)
  (a5:nsIn K mainGlobals "kept_rows" = some (some (.ref f5)))
  (l5:K.lookup f5=some ⟨oc5,od5,.func (fnOf "kept_rows" "kept_rows" (zu wb) (zq wb) (ze wb) .none kV5 dc5 pm5 an5 cd5 ct5),sl5⟩)
  (c5:codeIn K cd5 "kept_rows" = true)
  (k5:keepIn K (.ref f5)=true)
  (a6:nsIn K mainGlobals "spans_of" = some (some (.ref f6)))
  (l6:K.lookup f6=some ⟨oc6,od6,.func (fnOf "spans_of" "spans_of" (zu wH) (zq wH) (ze wH) .none kV6 dc6 pm6 an6 cd6 ct6),sl6⟩)
  (c6:codeIn K cd6 "spans_of" = true)
  (k6:keepIn K (.ref f6)=true)
  (a7:findIn K (.ref C_Hours) "__init__" = some (some (.ref f7)))
  (i7:PySem.W.isFn K (.ref f7)=true)
  (l7:K.lookup f7=some ⟨oc7,od7,.func (fnOf "__init__" "Hours.__init__" (zu xy) (zq xy) (ze xy) .none kV7 dc7 pm7 an7 cd7 ct7),sl7⟩)
  (c7:codeIn K cd7 "Hours.__init__" = true)
  (k7:keepIn K (.ref f7)=true)
  (a8:findIn K (.ref C_Hours) "rows" = some (some (.ref f8)))
  (i8:PySem.W.isFn K (.ref f8)=true)
  (l8:K.lookup f8=some ⟨oc8,od8,.func (fnOf "rows" "Hours.rows" (zu xD) (zq xD) (ze xD) .none kV8 dc8 pm8 an8 cd8 ct8),sl8⟩)
  (c8:codeIn K cd8 "Hours.rows" = true)
  (k8:keepIn K (.ref f8)=true)
  (a9:findIn K (.ref C_Hours) "rest" = some (some (.ref f9)))
  (i9:PySem.W.isFn K (.ref f9)=true)
  (l9:K.lookup f9=some ⟨oc9,od9,.func (fnOf "rest" "Hours.rest" (zu wt) (zq wt) (ze wt) .none kV9 dc9 pm9 an9 cd9 ct9),sl9⟩)
  (c9:codeIn K cd9 "Hours.rest" = true)
  (k9:keepIn K (.ref f9)=true)
  (a10:findIn K (.ref C_Hours) "end" = some (some (.ref f10)))
  (i10:PySem.W.isFn K (.ref f10)=true)
  (l10:K.lookup f10=some ⟨oc10,od10,.func (fnOf "end" "Hours.end" (zu wV) (zq wV) (ze wV) .none kV10 dc10 pm10 an10 cd10 ct10),sl10⟩)
  (c10:codeIn K cd10 "Hours.end" = true)
  (k10:keepIn K (.ref f10)=true)
  (a11:findIn K (.ref C_Hours) "at" = some (some (.ref f11)))
  (i11:PySem.W.isFn K (.ref f11)=true)
  (l11:K.lookup f11=some ⟨oc11,od11,.func (fnOf "at" "Hours.at" (zu wq) (zq wq) (ze wq) .none kV11 dc11 pm11 an11 cd11 ct11),sl11⟩)
  (c11:codeIn K cd11 "Hours.at" = true)
  (k11:keepIn K (.ref f11)=true)
  (a12:nsIn K mainGlobals "_law_cell" = some (some (.ref f12)))
  (l12:K.lookup f12=some ⟨oc12,od12,.func (fnOf "_law_cell" "_law_cell" (zu wY) (zq wY) (ze wY) .none kV12 dc12 pm12 an12 cd12 ct12),sl12⟩)
  (c12:codeIn K cd12 "_law_cell" = true)
  (k12:keepIn K (.ref f12)=true)
  (a13:nsIn K mainGlobals "_law_stir" = some (some (.ref f13)))
  (l13:K.lookup f13=some ⟨oc13,od13,.func (fnOf "_law_stir" "_law_stir" (zu wj) (zq wj) (ze wj) .none kV13 dc13 pm13 an13 cd13 ct13),sl13⟩)
  (c13:codeIn K cd13 "_law_stir" = true)
  (k13:keepIn K (.ref f13)=true)
  (a14:nsIn K mainGlobals "_law_row" = some (some (.ref f14)))
  (l14:K.lookup f14=some ⟨oc14,od14,.func (fnOf "_law_row" "_law_row" (zu wB) (zq wB) (ze wB) .none kV14 dc14 pm14 an14 cd14 ct14),sl14⟩)
  (c14:codeIn K cd14 "_law_row" = true)
  (k14:keepIn K (.ref f14)=true)
  (a15:nsIn K mainGlobals "_law_kinds" = some (some (.ref f15)))
  (l15:K.lookup f15=some ⟨oc15,od15,.func (fnOf "_law_kinds" "_law_kinds" (zu wu) (zq wu) (ze wu) .none kV15 dc15 pm15 an15 cd15 ct15),sl15⟩)
  (c15:codeIn K cd15 "_law_kinds" = true)
  (k15:keepIn K (.ref f15)=true)
  (a16:nsIn K mainGlobals "_law_own" = some (some (.ref f16)))
  (l16:K.lookup f16=some ⟨oc16,od16,.func (fnOf "_law_own" "_law_own" (zu xR) (zq xR) (ze xR) .none kV16 dc16 pm16 an16 cd16 ct16),sl16⟩)
  (c16:codeIn K cd16 "_law_own" = true)
  (k16:keepIn K (.ref f16)=true)
  (a17:nsIn K mainGlobals "_law_errors" = some (some (.ref f17)))
  (l17:K.lookup f17=some ⟨oc17,od17,.func (fnOf "_law_errors" "_law_errors" (zu wX) (zq wX) (ze wX) .none kV17 dc17 pm17 an17 cd17 ct17),sl17⟩)
  (c17:codeIn K cd17 "_law_errors" = true)
  (k17:keepIn K (.ref f17)=true)
  (a18:nsIn K mainGlobals "_law_text" = some (some (.ref f18)))
  (l18:K.lookup f18=some ⟨oc18,od18,.func (fnOf "_law_text" "_law_text" (zu yR) (zq yR) (ze yR) .none kV18 dc18 pm18 an18 cd18 ct18),sl18⟩)
  (c18:codeIn K cd18 "_law_text" = true)
  (k18:keepIn K (.ref f18)=true)
  (a19:nsIn K mainGlobals "_law_is_name" = some (some (.ref f19)))
  (l19:K.lookup f19=some ⟨oc19,od19,.func (fnOf "_law_is_name" "_law_is_name" (zu xt) (zq xt) (ze xt) .none kV19 dc19 pm19 an19 cd19 ct19),sl19⟩)
  (c19:codeIn K cd19 "_law_is_name" = true)
  (k19:keepIn K (.ref f19)=true)
  (a20:nsIn K mainGlobals "_law_told" = some (some (.ref f20)))
  (l20:K.lookup f20=some ⟨oc20,od20,.func (fnOf "_law_told" "_law_told" (zu wO) (zq wO) (ze wO) .none kV20 dc20 pm20 an20 cd20 ct20),sl20⟩)
  (c20:codeIn K cd20 "_law_told" = true)
  (k20:keepIn K (.ref f20)=true)
  (a21:nsIn K mainGlobals "_law_things" = some (some (.ref f21)))
  (l21:K.lookup f21=some ⟨oc21,od21,.func (fnOf "_law_things" "_law_things" (zu wx) (zq wx) (ze wx) .none kV21 dc21 pm21 an21 cd21 ct21),sl21⟩)
  (c21:codeIn K cd21 "_law_things" = true)
  (k21:keepIn K (.ref f21)=true)
  (a22:nsIn K mainGlobals "_law_odd" = some (some (.ref f22)))
  (l22:K.lookup f22=some ⟨oc22,od22,.func (fnOf "_law_odd" "_law_odd" (zu w6) (zq w6) (ze w6) .none kV22 dc22 pm22 an22 cd22 ct22),sl22⟩)
  (c22:codeIn K cd22 "_law_odd" = true)
  (k22:keepIn K (.ref f22)=true)
  (a23:nsIn K mainGlobals "_law_bad_row" = some (some (.ref f23)))
  (l23:K.lookup f23=some ⟨oc23,od23,.func (fnOf "_law_bad_row" "_law_bad_row" (zu w5) (zq w5) (ze w5) .none kV23 dc23 pm23 an23 cd23 ct23),sl23⟩)
  (c23:codeIn K cd23 "_law_bad_row" = true)
  (k23:keepIn K (.ref f23)=true)
  (a24:nsIn K mainGlobals "_law_refused" = some (some (.ref f24)))
  (l24:K.lookup f24=some ⟨oc24,od24,.func (fnOf "_law_refused" "_law_refused" (zu wF) (zq wF) (ze wF) .none kV24 dc24 pm24 an24 cd24 ct24),sl24⟩)
  (c24:codeIn K cd24 "_law_refused" = true)
  (k24:keepIn K (.ref f24)=true)
  (a25:nsIn K mainGlobals "law" = some (some (.ref f25)))
  (l25:K.lookup f25=some ⟨oc25,od25,.func (fnOf "law" "law" (zu y3) (zq y3) (ze y3) .none kV25 dc25 pm25 an25 cd25 ct25),sl25⟩)
  (c25:codeIn K cd25 "law" = true)
  (k25:keepIn K (.ref f25)=true)
  (pg_Hours:plainGet K C_Hours Str.empty=true)
  (hd_Hours:hasDictIn K C_Hours=true)
  (po_Hours:PySem.W.plainOver K C_Hours=true)
  (sa_Hours:findIn K (.ref C_Hours) "__setattr__" = some (some (.builtin "object.__setattr__")))
  (mk_Hours:PySem.W.makesIn K C_Hours=true)
  (kc_Hours:keepIn K (.ref C_Hours)=true)
  (xnd:([C_Doubled,C_Taken,C_NoTicket,C_NotBegun,C_NoBooking,C_NotKept,C_NoCounter,C_TooMany,C_NoName,C_NoNumber,C_NoHours,C_NoLine,C_NoBreak]:List Addr).Nodup)
  (xl_Doubled:K.lookup C_Doubled=some ⟨.type "type",dd_Doubled,.cls cd_Doubled,#[k0_Doubled,k1_Doubled,k2_Doubled,k3_Doubled,some (.builtin "ValueError.__new__"),k5_Doubled]⟩)
  (xmr_Doubled:cd_Doubled.mro=.ref C_Doubled::bm_Doubled)
  (xdl_Doubled:cd_Doubled.hasDel=false)
  (xtl_Doubled:PySem.W.tailIn K vB bm_Doubled=true)
  (xok_Doubled:PySem.W.nsOkIn K cd_Doubled.ns=true)
  (xin_Doubled:nsIn K cd_Doubled.ns "__init__" = some (some (.ref fI_Doubled)))
  (xkp_Doubled:keepIn K (.ref C_Doubled)=true)
  (xli_Doubled:K.lookup fI_Doubled=some ⟨.type "function",odI_Doubled,.func (fnOf "__init__" "Doubled.__init__" (zu wM) (zq wM) (ze wM) .none kVI_Doubled dcI_Doubled pmI_Doubled anI_Doubled cdI_Doubled ctI_Doubled),slI_Doubled⟩)
  (xci_Doubled:codeIn K cdI_Doubled "Doubled.__init__" = true)
  (xki_Doubled:keepIn K (.ref fI_Doubled)=true)
  (sa_Doubled:findIn K (.ref C_Doubled) "__setattr__" = some (some (.builtin "object.__setattr__")))
  (xtk_Doubled:takerIn K C_Doubled "name" = some none)
  (xhd_Doubled:hasDictIn K C_Doubled=true)
  (be_Doubled:subIn K (.ref C_Doubled) (.type "BaseException")=some true)
  (sb_Doubled_HallError:subIn K (.ref C_Doubled) (.ref C_HallError)=some true)
  (ga_Doubled:findIn K (.ref C_Doubled) "__getattribute__" = some (some (.builtin "BaseException.__getattribute__")))
  (gt_Doubled:findIn K (.ref C_Doubled) "__getattr__" = some none)
  (na_Doubled:findIn K (.ref C_Doubled) "name" = some none)
  (xrd:PySem.W.readsIn K C_HallError (.type "type")=true)
  (xfc:PySem.W.findCls K (.ref C_HallError) (.type "type") "__init__" = some (.val (.builtin "ValueError.__init__")))
  (xsp:PySem.W.specialIn K (.ref C_HallError) "__getattribute__" = some (some (.builtin "type.__getattribute__")))
  (xl_NoBooking:K.lookup C_NoBooking=some ⟨.type "type",dd_NoBooking,.cls cd_NoBooking,#[k0_NoBooking,k1_NoBooking,k2_NoBooking,k3_NoBooking,some (.builtin "ValueError.__new__"),k5_NoBooking]⟩)
  (xmr_NoBooking:cd_NoBooking.mro=.ref C_NoBooking::bm_NoBooking)
  (xdl_NoBooking:cd_NoBooking.hasDel=false)
  (xtl_NoBooking:PySem.W.tailIn K vB bm_NoBooking=true)
  (xok_NoBooking:PySem.W.nsOkIn K cd_NoBooking.ns=true)
  (xin_NoBooking:nsIn K cd_NoBooking.ns "__init__" = some (some (.ref fI_NoBooking)))
  (xkp_NoBooking:keepIn K (.ref C_NoBooking)=true)
  (xli_NoBooking:K.lookup fI_NoBooking=some ⟨.type "function",odI_NoBooking,.func (fnOf "__init__" "NoBooking.__init__" (zu wG) (zq wG) (ze wG) .none kVI_NoBooking dcI_NoBooking pmI_NoBooking anI_NoBooking cdI_NoBooking ctI_NoBooking),slI_NoBooking⟩)
  (xci_NoBooking:codeIn K cdI_NoBooking "NoBooking.__init__" = true)
  (xki_NoBooking:keepIn K (.ref fI_NoBooking)=true)
  (sa_NoBooking:findIn K (.ref C_NoBooking) "__setattr__" = some (some (.builtin "object.__setattr__")))
  (xtk_NoBooking:takerIn K C_NoBooking "name" = some none)
  (xhd_NoBooking:hasDictIn K C_NoBooking=true)
  (be_NoBooking:subIn K (.ref C_NoBooking) (.type "BaseException")=some true)
  (sb_NoBooking_HallError:subIn K (.ref C_NoBooking) (.ref C_HallError)=some true)
  (ga_NoBooking:findIn K (.ref C_NoBooking) "__getattribute__" = some (some (.builtin "BaseException.__getattribute__")))
  (gt_NoBooking:findIn K (.ref C_NoBooking) "__getattr__" = some none)
  (na_NoBooking:findIn K (.ref C_NoBooking) "name" = some none)
  (xl_NoCounter:K.lookup C_NoCounter=some ⟨.type "type",dd_NoCounter,.cls cd_NoCounter,#[k0_NoCounter,k1_NoCounter,k2_NoCounter,k3_NoCounter,some (.builtin "ValueError.__new__"),k5_NoCounter]⟩)
  (xmr_NoCounter:cd_NoCounter.mro=.ref C_NoCounter::bm_NoCounter)
  (xdl_NoCounter:cd_NoCounter.hasDel=false)
  (xtl_NoCounter:PySem.W.tailIn K vB bm_NoCounter=true)
  (xok_NoCounter:PySem.W.nsOkIn K cd_NoCounter.ns=true)
  (xin_NoCounter:nsIn K cd_NoCounter.ns "__init__" = some (some (.ref fI_NoCounter)))
  (xkp_NoCounter:keepIn K (.ref C_NoCounter)=true)
  (xli_NoCounter:K.lookup fI_NoCounter=some ⟨.type "function",odI_NoCounter,.func (fnOf "__init__" "NoCounter.__init__" (zu wd) (zq wd) (ze wd) .none kVI_NoCounter dcI_NoCounter pmI_NoCounter anI_NoCounter cdI_NoCounter ctI_NoCounter),slI_NoCounter⟩)
  (xci_NoCounter:codeIn K cdI_NoCounter "NoCounter.__init__" = true)
  (xki_NoCounter:keepIn K (.ref fI_NoCounter)=true)
  (sa_NoCounter:findIn K (.ref C_NoCounter) "__setattr__" = some (some (.builtin "object.__setattr__")))
  (xtk_NoCounter:takerIn K C_NoCounter "turn" = some none)
  (xhd_NoCounter:hasDictIn K C_NoCounter=true)
  (be_NoCounter:subIn K (.ref C_NoCounter) (.type "BaseException")=some true)
  (sb_NoCounter_HallError:subIn K (.ref C_NoCounter) (.ref C_HallError)=some true)
  (ga_NoCounter:findIn K (.ref C_NoCounter) "__getattribute__" = some (some (.builtin "BaseException.__getattribute__")))
  (gt_NoCounter:findIn K (.ref C_NoCounter) "__getattr__" = some none)
  (na_NoCounter:findIn K (.ref C_NoCounter) "turn" = some none)
  (xl_NoTicket:K.lookup C_NoTicket=some ⟨.type "type",dd_NoTicket,.cls cd_NoTicket,#[k0_NoTicket,k1_NoTicket,k2_NoTicket,k3_NoTicket,some (.builtin "ValueError.__new__"),k5_NoTicket]⟩)
  (xmr_NoTicket:cd_NoTicket.mro=.ref C_NoTicket::bm_NoTicket)
  (xdl_NoTicket:cd_NoTicket.hasDel=false)
  (xtl_NoTicket:PySem.W.tailIn K vB bm_NoTicket=true)
  (xok_NoTicket:PySem.W.nsOkIn K cd_NoTicket.ns=true)
  (xin_NoTicket:nsIn K cd_NoTicket.ns "__init__" = some (some (.ref fI_NoTicket)))
  (xkp_NoTicket:keepIn K (.ref C_NoTicket)=true)
  (xli_NoTicket:K.lookup fI_NoTicket=some ⟨.type "function",odI_NoTicket,.func (fnOf "__init__" "NoTicket.__init__" (zu wU) (zq wU) (ze wU) .none kVI_NoTicket dcI_NoTicket pmI_NoTicket anI_NoTicket cdI_NoTicket ctI_NoTicket),slI_NoTicket⟩)
  (xci_NoTicket:codeIn K cdI_NoTicket "NoTicket.__init__" = true)
  (xki_NoTicket:keepIn K (.ref fI_NoTicket)=true)
  (sa_NoTicket:findIn K (.ref C_NoTicket) "__setattr__" = some (some (.builtin "object.__setattr__")))
  (xtk_NoTicket:takerIn K C_NoTicket "name" = some none)
  (xhd_NoTicket:hasDictIn K C_NoTicket=true)
  (be_NoTicket:subIn K (.ref C_NoTicket) (.type "BaseException")=some true)
  (sb_NoTicket_HallError:subIn K (.ref C_NoTicket) (.ref C_HallError)=some true)
  (ga_NoTicket:findIn K (.ref C_NoTicket) "__getattribute__" = some (some (.builtin "BaseException.__getattribute__")))
  (gt_NoTicket:findIn K (.ref C_NoTicket) "__getattr__" = some none)
  (na_NoTicket:findIn K (.ref C_NoTicket) "name" = some none)
  (xl_NotBegun:K.lookup C_NotBegun=some ⟨.type "type",dd_NotBegun,.cls cd_NotBegun,#[k0_NotBegun,k1_NotBegun,k2_NotBegun,k3_NotBegun,some (.builtin "ValueError.__new__"),k5_NotBegun]⟩)
  (xmr_NotBegun:cd_NotBegun.mro=.ref C_NotBegun::bm_NotBegun)
  (xdl_NotBegun:cd_NotBegun.hasDel=false)
  (xtl_NotBegun:PySem.W.tailIn K vB bm_NotBegun=true)
  (xok_NotBegun:PySem.W.nsOkIn K cd_NotBegun.ns=true)
  (xin_NotBegun:nsIn K cd_NotBegun.ns "__init__" = some (some (.ref fI_NotBegun)))
  (xkp_NotBegun:keepIn K (.ref C_NotBegun)=true)
  (xli_NotBegun:K.lookup fI_NotBegun=some ⟨.type "function",odI_NotBegun,.func (fnOf "__init__" "NotBegun.__init__" (zu wg) (zq wg) (ze wg) .none kVI_NotBegun dcI_NotBegun pmI_NotBegun anI_NotBegun cdI_NotBegun ctI_NotBegun),slI_NotBegun⟩)
  (xci_NotBegun:codeIn K cdI_NotBegun "NotBegun.__init__" = true)
  (xki_NotBegun:keepIn K (.ref fI_NotBegun)=true)
  (sa_NotBegun:findIn K (.ref C_NotBegun) "__setattr__" = some (some (.builtin "object.__setattr__")))
  (xtk_NotBegun:takerIn K C_NotBegun "name" = some none)
  (xhd_NotBegun:hasDictIn K C_NotBegun=true)
  (be_NotBegun:subIn K (.ref C_NotBegun) (.type "BaseException")=some true)
  (sb_NotBegun_HallError:subIn K (.ref C_NotBegun) (.ref C_HallError)=some true)
  (ga_NotBegun:findIn K (.ref C_NotBegun) "__getattribute__" = some (some (.builtin "BaseException.__getattribute__")))
  (gt_NotBegun:findIn K (.ref C_NotBegun) "__getattr__" = some none)
  (na_NotBegun:findIn K (.ref C_NotBegun) "name" = some none)
  (xl_NotKept:K.lookup C_NotKept=some ⟨.type "type",dd_NotKept,.cls cd_NotKept,#[k0_NotKept,k1_NotKept,k2_NotKept,k3_NotKept,some (.builtin "ValueError.__new__"),k5_NotKept]⟩)
  (xmr_NotKept:cd_NotKept.mro=.ref C_NotKept::bm_NotKept)
  (xdl_NotKept:cd_NotKept.hasDel=false)
  (xtl_NotKept:PySem.W.tailIn K vB bm_NotKept=true)
  (xok_NotKept:PySem.W.nsOkIn K cd_NotKept.ns=true)
  (xin_NotKept:nsIn K cd_NotKept.ns "__init__" = some (some (.ref fI_NotKept)))
  (xkp_NotKept:keepIn K (.ref C_NotKept)=true)
  (xli_NotKept:K.lookup fI_NotKept=some ⟨.type "function",odI_NotKept,.func (fnOf "__init__" "NotKept.__init__" (zu xY) (zq xY) (ze xY) .none kVI_NotKept dcI_NotKept pmI_NotKept anI_NotKept cdI_NotKept ctI_NotKept),slI_NotKept⟩)
  (xci_NotKept:codeIn K cdI_NotKept "NotKept.__init__" = true)
  (xki_NotKept:keepIn K (.ref fI_NotKept)=true)
  (sa_NotKept:findIn K (.ref C_NotKept) "__setattr__" = some (some (.builtin "object.__setattr__")))
  (xtk_NotKept:takerIn K C_NotKept "name" = some none)
  (xhd_NotKept:hasDictIn K C_NotKept=true)
  (be_NotKept:subIn K (.ref C_NotKept) (.type "BaseException")=some true)
  (sb_NotKept_HallError:subIn K (.ref C_NotKept) (.ref C_HallError)=some true)
  (ga_NotKept:findIn K (.ref C_NotKept) "__getattribute__" = some (some (.builtin "BaseException.__getattribute__")))
  (gt_NotKept:findIn K (.ref C_NotKept) "__getattr__" = some none)
  (na_NotKept:findIn K (.ref C_NotKept) "name" = some none)
  (xl_Taken:K.lookup C_Taken=some ⟨.type "type",dd_Taken,.cls cd_Taken,#[k0_Taken,k1_Taken,k2_Taken,k3_Taken,some (.builtin "ValueError.__new__"),k5_Taken]⟩)
  (xmr_Taken:cd_Taken.mro=.ref C_Taken::bm_Taken)
  (xdl_Taken:cd_Taken.hasDel=false)
  (xtl_Taken:PySem.W.tailIn K vB bm_Taken=true)
  (xok_Taken:PySem.W.nsOkIn K cd_Taken.ns=true)
  (xin_Taken:nsIn K cd_Taken.ns "__init__" = some (some (.ref fI_Taken)))
  (xkp_Taken:keepIn K (.ref C_Taken)=true)
  (xli_Taken:K.lookup fI_Taken=some ⟨.type "function",odI_Taken,.func (fnOf "__init__" "Taken.__init__" (zu ve) (zq ve) (ze ve) .none kVI_Taken dcI_Taken pmI_Taken anI_Taken cdI_Taken ctI_Taken),slI_Taken⟩)
  (xci_Taken:codeIn K cdI_Taken "Taken.__init__" = true)
  (xki_Taken:keepIn K (.ref fI_Taken)=true)
  (sa_Taken:findIn K (.ref C_Taken) "__setattr__" = some (some (.builtin "object.__setattr__")))
  (xtk_Taken:takerIn K C_Taken "name" = some none)
  (xhd_Taken:hasDictIn K C_Taken=true)
  (be_Taken:subIn K (.ref C_Taken) (.type "BaseException")=some true)
  (sb_Taken_HallError:subIn K (.ref C_Taken) (.ref C_HallError)=some true)
  (ga_Taken:findIn K (.ref C_Taken) "__getattribute__" = some (some (.builtin "BaseException.__getattribute__")))
  (gt_Taken:findIn K (.ref C_Taken) "__getattr__" = some none)
  (na_Taken:findIn K (.ref C_Taken) "name" = some none)
  (cl_Doubled:PySem.W.isClsIn K C_Doubled=true)
  (cc_Doubled:findIn K (.ref C_Doubled) "__class__" = some (some (.builtin "object.__class__")))
  (xcg:PySem.W.specialIn K (.builtin "object.__class__") "__get__" = some (some (.builtin "getset_descriptor.__get__")))
  (xct:PySem.W.takesIn K (.builtin "object.__class__")=some true)
  (mo_Doubled:PySem.W.mroIn K C_Doubled (.type "object")=some true)
  (cl_NoBooking:PySem.W.isClsIn K C_NoBooking=true)
  (cc_NoBooking:findIn K (.ref C_NoBooking) "__class__" = some (some (.builtin "object.__class__")))
  (mo_NoBooking:PySem.W.mroIn K C_NoBooking (.type "object")=some true)
  (be_NoBreak:subIn K (.ref C_NoBreak) (.type "BaseException")=some true)
  (cl_NoBreak:PySem.W.isClsIn K C_NoBreak=true)
  (ga_NoBreak:findIn K (.ref C_NoBreak) "__getattribute__" = some (some (.builtin "BaseException.__getattribute__")))
  (gt_NoBreak:findIn K (.ref C_NoBreak) "__getattr__" = some none)
  (cc_NoBreak:findIn K (.ref C_NoBreak) "__class__" = some (some (.builtin "object.__class__")))
  (mo_NoBreak:PySem.W.mroIn K C_NoBreak (.type "object")=some true)
  (cl_NoCounter:PySem.W.isClsIn K C_NoCounter=true)
  (cc_NoCounter:findIn K (.ref C_NoCounter) "__class__" = some (some (.builtin "object.__class__")))
  (mo_NoCounter:PySem.W.mroIn K C_NoCounter (.type "object")=some true)
  (be_NoHours:subIn K (.ref C_NoHours) (.type "BaseException")=some true)
  (cl_NoHours:PySem.W.isClsIn K C_NoHours=true)
  (ga_NoHours:findIn K (.ref C_NoHours) "__getattribute__" = some (some (.builtin "BaseException.__getattribute__")))
  (gt_NoHours:findIn K (.ref C_NoHours) "__getattr__" = some none)
  (cc_NoHours:findIn K (.ref C_NoHours) "__class__" = some (some (.builtin "object.__class__")))
  (mo_NoHours:PySem.W.mroIn K C_NoHours (.type "object")=some true)
  (be_NoLine:subIn K (.ref C_NoLine) (.type "BaseException")=some true)
  (cl_NoLine:PySem.W.isClsIn K C_NoLine=true)
  (ga_NoLine:findIn K (.ref C_NoLine) "__getattribute__" = some (some (.builtin "BaseException.__getattribute__")))
  (gt_NoLine:findIn K (.ref C_NoLine) "__getattr__" = some none)
  (cc_NoLine:findIn K (.ref C_NoLine) "__class__" = some (some (.builtin "object.__class__")))
  (mo_NoLine:PySem.W.mroIn K C_NoLine (.type "object")=some true)
  (be_NoName:subIn K (.ref C_NoName) (.type "BaseException")=some true)
  (cl_NoName:PySem.W.isClsIn K C_NoName=true)
  (ga_NoName:findIn K (.ref C_NoName) "__getattribute__" = some (some (.builtin "BaseException.__getattribute__")))
  (gt_NoName:findIn K (.ref C_NoName) "__getattr__" = some none)
  (cc_NoName:findIn K (.ref C_NoName) "__class__" = some (some (.builtin "object.__class__")))
  (mo_NoName:PySem.W.mroIn K C_NoName (.type "object")=some true)
  (be_NoNumber:subIn K (.ref C_NoNumber) (.type "BaseException")=some true)
  (cl_NoNumber:PySem.W.isClsIn K C_NoNumber=true)
  (ga_NoNumber:findIn K (.ref C_NoNumber) "__getattribute__" = some (some (.builtin "BaseException.__getattribute__")))
  (gt_NoNumber:findIn K (.ref C_NoNumber) "__getattr__" = some none)
  (cc_NoNumber:findIn K (.ref C_NoNumber) "__class__" = some (some (.builtin "object.__class__")))
  (mo_NoNumber:PySem.W.mroIn K C_NoNumber (.type "object")=some true)
  (cl_NoTicket:PySem.W.isClsIn K C_NoTicket=true)
  (cc_NoTicket:findIn K (.ref C_NoTicket) "__class__" = some (some (.builtin "object.__class__")))
  (mo_NoTicket:PySem.W.mroIn K C_NoTicket (.type "object")=some true)
  (cl_NotBegun:PySem.W.isClsIn K C_NotBegun=true)
  (cc_NotBegun:findIn K (.ref C_NotBegun) "__class__" = some (some (.builtin "object.__class__")))
  (mo_NotBegun:PySem.W.mroIn K C_NotBegun (.type "object")=some true)
  (cl_NotKept:PySem.W.isClsIn K C_NotKept=true)
  (cc_NotKept:findIn K (.ref C_NotKept) "__class__" = some (some (.builtin "object.__class__")))
  (mo_NotKept:PySem.W.mroIn K C_NotKept (.type "object")=some true)
  (cl_Taken:PySem.W.isClsIn K C_Taken=true)
  (cc_Taken:findIn K (.ref C_Taken) "__class__" = some (some (.builtin "object.__class__")))
  (mo_Taken:PySem.W.mroIn K C_Taken (.type "object")=some true)
  (be_TooMany:subIn K (.ref C_TooMany) (.type "BaseException")=some true)
  (cl_TooMany:PySem.W.isClsIn K C_TooMany=true)
  (ga_TooMany:findIn K (.ref C_TooMany) "__getattribute__" = some (some (.builtin "BaseException.__getattribute__")))
  (gt_TooMany:findIn K (.ref C_TooMany) "__getattr__" = some none)
  (cc_TooMany:findIn K (.ref C_TooMany) "__class__" = some (some (.builtin "object.__class__")))
  (mo_TooMany:PySem.W.mroIn K C_TooMany (.type "object")=some true)
  (xl_NoBreak:K.lookup C_NoBreak=some ⟨.type "type",dd_NoBreak,.cls cd_NoBreak,#[k0_NoBreak,k1_NoBreak,k2_NoBreak,k3_NoBreak,some (.builtin "ValueError.__new__"),k5_NoBreak]⟩)
  (xmr_NoBreak:cd_NoBreak.mro=.ref C_NoBreak::bm_NoBreak)
  (xdl_NoBreak:cd_NoBreak.hasDel=false)
  (xtl_NoBreak:PySem.W.tailIn K vB bm_NoBreak=true)
  (xok_NoBreak:PySem.W.nsOkIn K cd_NoBreak.ns=true)
  (xin_NoBreak:nsIn K cd_NoBreak.ns "__init__" = some (some (.ref fI_NoBreak)))
  (xkp_NoBreak:keepIn K (.ref C_NoBreak)=true)
  (xli_NoBreak:K.lookup fI_NoBreak=some ⟨.type "function",odI_NoBreak,.func (fnOf "__init__" "NoBreak.__init__" (zu wK) (zq wK) (ze wK) .none kVI_NoBreak dcI_NoBreak pmI_NoBreak anI_NoBreak cdI_NoBreak ctI_NoBreak),slI_NoBreak⟩)
  (xci_NoBreak:codeIn K cdI_NoBreak "NoBreak.__init__" = true)
  (xki_NoBreak:keepIn K (.ref fI_NoBreak)=true)
  (sa_NoBreak:findIn K (.ref C_NoBreak) "__setattr__" = some (some (.builtin "object.__setattr__")))
  (xtk_NoBreak:takerIn K C_NoBreak "first" = some none)
  (xhd_NoBreak:hasDictIn K C_NoBreak=true)
  (sb_NoBreak_HallError:subIn K (.ref C_NoBreak) (.ref C_HallError)=some true)
  (na_NoBreak:findIn K (.ref C_NoBreak) "first" = some none)
  (xtk2_NoBreak:takerIn K C_NoBreak "last" = some none)
  (nb_NoBreak:findIn K (.ref C_NoBreak) "last" = some none)
  (su_Doubled_ValueError:subIn K (.ref C_Doubled) (.type "ValueError")=some true)
  (su_NoBooking_ValueError:subIn K (.ref C_NoBooking) (.type "ValueError")=some true)
  (su_NoBreak_ValueError:subIn K (.ref C_NoBreak) (.type "ValueError")=some true)
  (su_NoCounter_ValueError:subIn K (.ref C_NoCounter) (.type "ValueError")=some true)
  (su_NoHours_ValueError:subIn K (.ref C_NoHours) (.type "ValueError")=some true)
  (su_NoLine_ValueError:subIn K (.ref C_NoLine) (.type "ValueError")=some true)
  (su_NoName_ValueError:subIn K (.ref C_NoName) (.type "ValueError")=some true)
  (su_NoNumber_ValueError:subIn K (.ref C_NoNumber) (.type "ValueError")=some true)
  (su_NoTicket_ValueError:subIn K (.ref C_NoTicket) (.type "ValueError")=some true)
  (su_NotBegun_ValueError:subIn K (.ref C_NotBegun) (.type "ValueError")=some true)
  (su_NotKept_ValueError:subIn K (.ref C_NotKept) (.type "ValueError")=some true)
  (su_Taken_ValueError:subIn K (.ref C_Taken) (.type "ValueError")=some true)
  (su_TooMany_ValueError:subIn K (.ref C_TooMany) (.type "ValueError")=some true)
  (xl_NoHours:K.lookup C_NoHours=some ⟨.type "type",dd_NoHours,.cls cd_NoHours,#[k0_NoHours,k1_NoHours,k2_NoHours,k3_NoHours,some (.builtin "ValueError.__new__"),k5_NoHours]⟩)
  (xmr_NoHours:cd_NoHours.mro=.ref C_NoHours::bm_NoHours)
  (xdl_NoHours:cd_NoHours.hasDel=false)
  (xtl_NoHours:PySem.W.tailIn K vB bm_NoHours=true)
  (xok_NoHours:PySem.W.nsOkIn K cd_NoHours.ns=true)
  (xin_NoHours:nsIn K cd_NoHours.ns "__init__" = some none)
  (xkp_NoHours:keepIn K (.ref C_NoHours)=true)
  (xl_NoLine:K.lookup C_NoLine=some ⟨.type "type",dd_NoLine,.cls cd_NoLine,#[k0_NoLine,k1_NoLine,k2_NoLine,k3_NoLine,some (.builtin "ValueError.__new__"),k5_NoLine]⟩)
  (xmr_NoLine:cd_NoLine.mro=.ref C_NoLine::bm_NoLine)
  (xdl_NoLine:cd_NoLine.hasDel=false)
  (xtl_NoLine:PySem.W.tailIn K vB bm_NoLine=true)
  (xok_NoLine:PySem.W.nsOkIn K cd_NoLine.ns=true)
  (xin_NoLine:nsIn K cd_NoLine.ns "__init__" = some none)
  (xkp_NoLine:keepIn K (.ref C_NoLine)=true)
  (xl_NoName:K.lookup C_NoName=some ⟨.type "type",dd_NoName,.cls cd_NoName,#[k0_NoName,k1_NoName,k2_NoName,k3_NoName,some (.builtin "ValueError.__new__"),k5_NoName]⟩)
  (xmr_NoName:cd_NoName.mro=.ref C_NoName::bm_NoName)
  (xdl_NoName:cd_NoName.hasDel=false)
  (xtl_NoName:PySem.W.tailIn K vB bm_NoName=true)
  (xok_NoName:PySem.W.nsOkIn K cd_NoName.ns=true)
  (xin_NoName:nsIn K cd_NoName.ns "__init__" = some none)
  (xkp_NoName:keepIn K (.ref C_NoName)=true)
  (xl_NoNumber:K.lookup C_NoNumber=some ⟨.type "type",dd_NoNumber,.cls cd_NoNumber,#[k0_NoNumber,k1_NoNumber,k2_NoNumber,k3_NoNumber,some (.builtin "ValueError.__new__"),k5_NoNumber]⟩)
  (xmr_NoNumber:cd_NoNumber.mro=.ref C_NoNumber::bm_NoNumber)
  (xdl_NoNumber:cd_NoNumber.hasDel=false)
  (xtl_NoNumber:PySem.W.tailIn K vB bm_NoNumber=true)
  (xok_NoNumber:PySem.W.nsOkIn K cd_NoNumber.ns=true)
  (xin_NoNumber:nsIn K cd_NoNumber.ns "__init__" = some none)
  (xkp_NoNumber:keepIn K (.ref C_NoNumber)=true)
  (xl_TooMany:K.lookup C_TooMany=some ⟨.type "type",dd_TooMany,.cls cd_TooMany,#[k0_TooMany,k1_TooMany,k2_TooMany,k3_TooMany,some (.builtin "ValueError.__new__"),k5_TooMany]⟩)
  (xmr_TooMany:cd_TooMany.mro=.ref C_TooMany::bm_TooMany)
  (xdl_TooMany:cd_TooMany.hasDel=false)
  (xtl_TooMany:PySem.W.tailIn K vB bm_TooMany=true)
  (xok_TooMany:PySem.W.nsOkIn K cd_TooMany.ns=true)
  (xin_TooMany:nsIn K cd_TooMany.ns "__init__" = some none)
  (xkp_TooMany:keepIn K (.ref C_TooMany)=true)
  (sb_NoHours_HallError:subIn K (.ref C_NoHours) (.ref C_HallError)=some true)
  (nt_HallError:PySem.W.instIn K (.ref C_HallError) (.type "tuple")=some false)
  (cl_HallError:PySem.W.isClsIn K C_HallError=true)
  (be_HallError:subIn K (.ref C_HallError) (.type "BaseException")=some true)
  (sb_Doubled_Doubled:subIn K (.ref C_Doubled) (.ref C_Doubled)=some true)
  (ty_NoBooking:PySem.W.typeIn K (.ref C_NoBooking)=some (.type "type"))
  (sb_Doubled_NoBooking:subIn K (.ref C_Doubled) (.ref C_NoBooking)=some false)
  (ty_NoBreak:PySem.W.typeIn K (.ref C_NoBreak)=some (.type "type"))
  (sb_Doubled_NoBreak:subIn K (.ref C_Doubled) (.ref C_NoBreak)=some false)
  (ty_NoCounter:PySem.W.typeIn K (.ref C_NoCounter)=some (.type "type"))
  (sb_Doubled_NoCounter:subIn K (.ref C_Doubled) (.ref C_NoCounter)=some false)
  (ty_NoHours:PySem.W.typeIn K (.ref C_NoHours)=some (.type "type"))
  (sb_Doubled_NoHours:subIn K (.ref C_Doubled) (.ref C_NoHours)=some false)
  (ty_NoLine:PySem.W.typeIn K (.ref C_NoLine)=some (.type "type"))
  (sb_Doubled_NoLine:subIn K (.ref C_Doubled) (.ref C_NoLine)=some false)
  (ty_NoName:PySem.W.typeIn K (.ref C_NoName)=some (.type "type"))
  (sb_Doubled_NoName:subIn K (.ref C_Doubled) (.ref C_NoName)=some false)
  (ty_NoNumber:PySem.W.typeIn K (.ref C_NoNumber)=some (.type "type"))
  (sb_Doubled_NoNumber:subIn K (.ref C_Doubled) (.ref C_NoNumber)=some false)
  (ty_NoTicket:PySem.W.typeIn K (.ref C_NoTicket)=some (.type "type"))
  (sb_Doubled_NoTicket:subIn K (.ref C_Doubled) (.ref C_NoTicket)=some false)
  (ty_NotBegun:PySem.W.typeIn K (.ref C_NotBegun)=some (.type "type"))
  (sb_Doubled_NotBegun:subIn K (.ref C_Doubled) (.ref C_NotBegun)=some false)
  (ty_NotKept:PySem.W.typeIn K (.ref C_NotKept)=some (.type "type"))
  (sb_Doubled_NotKept:subIn K (.ref C_Doubled) (.ref C_NotKept)=some false)
  (ty_Taken:PySem.W.typeIn K (.ref C_Taken)=some (.type "type"))
  (sb_Doubled_Taken:subIn K (.ref C_Doubled) (.ref C_Taken)=some false)
  (ty_TooMany:PySem.W.typeIn K (.ref C_TooMany)=some (.type "type"))
  (sb_Doubled_TooMany:subIn K (.ref C_Doubled) (.ref C_TooMany)=some false)
  (sb_NoBooking_NoBooking:subIn K (.ref C_NoBooking) (.ref C_NoBooking)=some true)
  (ty_Doubled:PySem.W.typeIn K (.ref C_Doubled)=some (.type "type"))
  (sb_NoBooking_Doubled:subIn K (.ref C_NoBooking) (.ref C_Doubled)=some false)
  (sb_NoBooking_NoBreak:subIn K (.ref C_NoBooking) (.ref C_NoBreak)=some false)
  (sb_NoBooking_NoCounter:subIn K (.ref C_NoBooking) (.ref C_NoCounter)=some false)
  (sb_NoBooking_NoHours:subIn K (.ref C_NoBooking) (.ref C_NoHours)=some false)
  (sb_NoBooking_NoLine:subIn K (.ref C_NoBooking) (.ref C_NoLine)=some false)
  (sb_NoBooking_NoName:subIn K (.ref C_NoBooking) (.ref C_NoName)=some false)
  (sb_NoBooking_NoNumber:subIn K (.ref C_NoBooking) (.ref C_NoNumber)=some false)
  (sb_NoBooking_NoTicket:subIn K (.ref C_NoBooking) (.ref C_NoTicket)=some false)
  (sb_NoBooking_NotBegun:subIn K (.ref C_NoBooking) (.ref C_NotBegun)=some false)
  (sb_NoBooking_NotKept:subIn K (.ref C_NoBooking) (.ref C_NotKept)=some false)
  (sb_NoBooking_Taken:subIn K (.ref C_NoBooking) (.ref C_Taken)=some false)
  (sb_NoBooking_TooMany:subIn K (.ref C_NoBooking) (.ref C_TooMany)=some false)
  (sb_NoBreak_NoBreak:subIn K (.ref C_NoBreak) (.ref C_NoBreak)=some true)
  (sb_NoBreak_Doubled:subIn K (.ref C_NoBreak) (.ref C_Doubled)=some false)
  (sb_NoBreak_NoBooking:subIn K (.ref C_NoBreak) (.ref C_NoBooking)=some false)
  (sb_NoBreak_NoCounter:subIn K (.ref C_NoBreak) (.ref C_NoCounter)=some false)
  (sb_NoBreak_NoHours:subIn K (.ref C_NoBreak) (.ref C_NoHours)=some false)
  (sb_NoBreak_NoLine:subIn K (.ref C_NoBreak) (.ref C_NoLine)=some false)
  (sb_NoBreak_NoName:subIn K (.ref C_NoBreak) (.ref C_NoName)=some false)
  (sb_NoBreak_NoNumber:subIn K (.ref C_NoBreak) (.ref C_NoNumber)=some false)
  (sb_NoBreak_NoTicket:subIn K (.ref C_NoBreak) (.ref C_NoTicket)=some false)
  (sb_NoBreak_NotBegun:subIn K (.ref C_NoBreak) (.ref C_NotBegun)=some false)
  (sb_NoBreak_NotKept:subIn K (.ref C_NoBreak) (.ref C_NotKept)=some false)
  (sb_NoBreak_Taken:subIn K (.ref C_NoBreak) (.ref C_Taken)=some false)
  (sb_NoBreak_TooMany:subIn K (.ref C_NoBreak) (.ref C_TooMany)=some false)
  (sb_NoCounter_NoCounter:subIn K (.ref C_NoCounter) (.ref C_NoCounter)=some true)
  (sb_NoCounter_Doubled:subIn K (.ref C_NoCounter) (.ref C_Doubled)=some false)
  (sb_NoCounter_NoBooking:subIn K (.ref C_NoCounter) (.ref C_NoBooking)=some false)
  (sb_NoCounter_NoBreak:subIn K (.ref C_NoCounter) (.ref C_NoBreak)=some false)
  (sb_NoCounter_NoHours:subIn K (.ref C_NoCounter) (.ref C_NoHours)=some false)
  (sb_NoCounter_NoLine:subIn K (.ref C_NoCounter) (.ref C_NoLine)=some false)
  (sb_NoCounter_NoName:subIn K (.ref C_NoCounter) (.ref C_NoName)=some false)
  (sb_NoCounter_NoNumber:subIn K (.ref C_NoCounter) (.ref C_NoNumber)=some false)
  (sb_NoCounter_NoTicket:subIn K (.ref C_NoCounter) (.ref C_NoTicket)=some false)
  (sb_NoCounter_NotBegun:subIn K (.ref C_NoCounter) (.ref C_NotBegun)=some false)
  (sb_NoCounter_NotKept:subIn K (.ref C_NoCounter) (.ref C_NotKept)=some false)
  (sb_NoCounter_Taken:subIn K (.ref C_NoCounter) (.ref C_Taken)=some false)
  (sb_NoCounter_TooMany:subIn K (.ref C_NoCounter) (.ref C_TooMany)=some false)
  (sb_NoHours_NoHours:subIn K (.ref C_NoHours) (.ref C_NoHours)=some true)
  (sb_NoHours_Doubled:subIn K (.ref C_NoHours) (.ref C_Doubled)=some false)
  (sb_NoHours_NoBooking:subIn K (.ref C_NoHours) (.ref C_NoBooking)=some false)
  (sb_NoHours_NoBreak:subIn K (.ref C_NoHours) (.ref C_NoBreak)=some false)
  (sb_NoHours_NoCounter:subIn K (.ref C_NoHours) (.ref C_NoCounter)=some false)
  (sb_NoHours_NoLine:subIn K (.ref C_NoHours) (.ref C_NoLine)=some false)
  (sb_NoHours_NoName:subIn K (.ref C_NoHours) (.ref C_NoName)=some false)
  (sb_NoHours_NoNumber:subIn K (.ref C_NoHours) (.ref C_NoNumber)=some false)
  (sb_NoHours_NoTicket:subIn K (.ref C_NoHours) (.ref C_NoTicket)=some false)
  (sb_NoHours_NotBegun:subIn K (.ref C_NoHours) (.ref C_NotBegun)=some false)
  (sb_NoHours_NotKept:subIn K (.ref C_NoHours) (.ref C_NotKept)=some false)
  (sb_NoHours_Taken:subIn K (.ref C_NoHours) (.ref C_Taken)=some false)
  (sb_NoHours_TooMany:subIn K (.ref C_NoHours) (.ref C_TooMany)=some false)
  (sb_NoLine_NoLine:subIn K (.ref C_NoLine) (.ref C_NoLine)=some true)
  (sb_NoLine_Doubled:subIn K (.ref C_NoLine) (.ref C_Doubled)=some false)
  (sb_NoLine_NoBooking:subIn K (.ref C_NoLine) (.ref C_NoBooking)=some false)
  (sb_NoLine_NoBreak:subIn K (.ref C_NoLine) (.ref C_NoBreak)=some false)
  (sb_NoLine_NoCounter:subIn K (.ref C_NoLine) (.ref C_NoCounter)=some false)
  (sb_NoLine_NoHours:subIn K (.ref C_NoLine) (.ref C_NoHours)=some false)
  (sb_NoLine_NoName:subIn K (.ref C_NoLine) (.ref C_NoName)=some false)
  (sb_NoLine_NoNumber:subIn K (.ref C_NoLine) (.ref C_NoNumber)=some false)
  (sb_NoLine_NoTicket:subIn K (.ref C_NoLine) (.ref C_NoTicket)=some false)
  (sb_NoLine_NotBegun:subIn K (.ref C_NoLine) (.ref C_NotBegun)=some false)
  (sb_NoLine_NotKept:subIn K (.ref C_NoLine) (.ref C_NotKept)=some false)
  (sb_NoLine_Taken:subIn K (.ref C_NoLine) (.ref C_Taken)=some false)
  (sb_NoLine_TooMany:subIn K (.ref C_NoLine) (.ref C_TooMany)=some false)
  (sb_NoName_NoName:subIn K (.ref C_NoName) (.ref C_NoName)=some true)
  (sb_NoName_Doubled:subIn K (.ref C_NoName) (.ref C_Doubled)=some false)
  (sb_NoName_NoBooking:subIn K (.ref C_NoName) (.ref C_NoBooking)=some false)
  (sb_NoName_NoBreak:subIn K (.ref C_NoName) (.ref C_NoBreak)=some false)
  (sb_NoName_NoCounter:subIn K (.ref C_NoName) (.ref C_NoCounter)=some false)
  (sb_NoName_NoHours:subIn K (.ref C_NoName) (.ref C_NoHours)=some false)
  (sb_NoName_NoLine:subIn K (.ref C_NoName) (.ref C_NoLine)=some false)
  (sb_NoName_NoNumber:subIn K (.ref C_NoName) (.ref C_NoNumber)=some false)
  (sb_NoName_NoTicket:subIn K (.ref C_NoName) (.ref C_NoTicket)=some false)
  (sb_NoName_NotBegun:subIn K (.ref C_NoName) (.ref C_NotBegun)=some false)
  (sb_NoName_NotKept:subIn K (.ref C_NoName) (.ref C_NotKept)=some false)
  (sb_NoName_Taken:subIn K (.ref C_NoName) (.ref C_Taken)=some false)
  (sb_NoName_TooMany:subIn K (.ref C_NoName) (.ref C_TooMany)=some false)
  (sb_NoNumber_NoNumber:subIn K (.ref C_NoNumber) (.ref C_NoNumber)=some true)
  (sb_NoNumber_Doubled:subIn K (.ref C_NoNumber) (.ref C_Doubled)=some false)
  (sb_NoNumber_NoBooking:subIn K (.ref C_NoNumber) (.ref C_NoBooking)=some false)
  (sb_NoNumber_NoBreak:subIn K (.ref C_NoNumber) (.ref C_NoBreak)=some false)
  (sb_NoNumber_NoCounter:subIn K (.ref C_NoNumber) (.ref C_NoCounter)=some false)
  (sb_NoNumber_NoHours:subIn K (.ref C_NoNumber) (.ref C_NoHours)=some false)
  (sb_NoNumber_NoLine:subIn K (.ref C_NoNumber) (.ref C_NoLine)=some false)
  (sb_NoNumber_NoName:subIn K (.ref C_NoNumber) (.ref C_NoName)=some false)
  (sb_NoNumber_NoTicket:subIn K (.ref C_NoNumber) (.ref C_NoTicket)=some false)
  (sb_NoNumber_NotBegun:subIn K (.ref C_NoNumber) (.ref C_NotBegun)=some false)
  (sb_NoNumber_NotKept:subIn K (.ref C_NoNumber) (.ref C_NotKept)=some false)
  (sb_NoNumber_Taken:subIn K (.ref C_NoNumber) (.ref C_Taken)=some false)
  (sb_NoNumber_TooMany:subIn K (.ref C_NoNumber) (.ref C_TooMany)=some false)
  (sb_NoTicket_NoTicket:subIn K (.ref C_NoTicket) (.ref C_NoTicket)=some true)
  (sb_NoTicket_Doubled:subIn K (.ref C_NoTicket) (.ref C_Doubled)=some false)
  (sb_NoTicket_NoBooking:subIn K (.ref C_NoTicket) (.ref C_NoBooking)=some false)
  (sb_NoTicket_NoBreak:subIn K (.ref C_NoTicket) (.ref C_NoBreak)=some false)
  (sb_NoTicket_NoCounter:subIn K (.ref C_NoTicket) (.ref C_NoCounter)=some false)
  (sb_NoTicket_NoHours:subIn K (.ref C_NoTicket) (.ref C_NoHours)=some false)
  (sb_NoTicket_NoLine:subIn K (.ref C_NoTicket) (.ref C_NoLine)=some false)
  (sb_NoTicket_NoName:subIn K (.ref C_NoTicket) (.ref C_NoName)=some false)
  (sb_NoTicket_NoNumber:subIn K (.ref C_NoTicket) (.ref C_NoNumber)=some false)
  (sb_NoTicket_NotBegun:subIn K (.ref C_NoTicket) (.ref C_NotBegun)=some false)
  (sb_NoTicket_NotKept:subIn K (.ref C_NoTicket) (.ref C_NotKept)=some false)
  (sb_NoTicket_Taken:subIn K (.ref C_NoTicket) (.ref C_Taken)=some false)
  (sb_NoTicket_TooMany:subIn K (.ref C_NoTicket) (.ref C_TooMany)=some false)
  (sb_NotBegun_NotBegun:subIn K (.ref C_NotBegun) (.ref C_NotBegun)=some true)
  (sb_NotBegun_Doubled:subIn K (.ref C_NotBegun) (.ref C_Doubled)=some false)
  (sb_NotBegun_NoBooking:subIn K (.ref C_NotBegun) (.ref C_NoBooking)=some false)
  (sb_NotBegun_NoBreak:subIn K (.ref C_NotBegun) (.ref C_NoBreak)=some false)
  (sb_NotBegun_NoCounter:subIn K (.ref C_NotBegun) (.ref C_NoCounter)=some false)
  (sb_NotBegun_NoHours:subIn K (.ref C_NotBegun) (.ref C_NoHours)=some false)
  (sb_NotBegun_NoLine:subIn K (.ref C_NotBegun) (.ref C_NoLine)=some false)
  (sb_NotBegun_NoName:subIn K (.ref C_NotBegun) (.ref C_NoName)=some false)
  (sb_NotBegun_NoNumber:subIn K (.ref C_NotBegun) (.ref C_NoNumber)=some false)
  (sb_NotBegun_NoTicket:subIn K (.ref C_NotBegun) (.ref C_NoTicket)=some false)
  (sb_NotBegun_NotKept:subIn K (.ref C_NotBegun) (.ref C_NotKept)=some false)
  (sb_NotBegun_Taken:subIn K (.ref C_NotBegun) (.ref C_Taken)=some false)
  (sb_NotBegun_TooMany:subIn K (.ref C_NotBegun) (.ref C_TooMany)=some false)
  (sb_NotKept_NotKept:subIn K (.ref C_NotKept) (.ref C_NotKept)=some true)
  (sb_NotKept_Doubled:subIn K (.ref C_NotKept) (.ref C_Doubled)=some false)
  (sb_NotKept_NoBooking:subIn K (.ref C_NotKept) (.ref C_NoBooking)=some false)
  (sb_NotKept_NoBreak:subIn K (.ref C_NotKept) (.ref C_NoBreak)=some false)
  (sb_NotKept_NoCounter:subIn K (.ref C_NotKept) (.ref C_NoCounter)=some false)
  (sb_NotKept_NoHours:subIn K (.ref C_NotKept) (.ref C_NoHours)=some false)
  (sb_NotKept_NoLine:subIn K (.ref C_NotKept) (.ref C_NoLine)=some false)
  (sb_NotKept_NoName:subIn K (.ref C_NotKept) (.ref C_NoName)=some false)
  (sb_NotKept_NoNumber:subIn K (.ref C_NotKept) (.ref C_NoNumber)=some false)
  (sb_NotKept_NoTicket:subIn K (.ref C_NotKept) (.ref C_NoTicket)=some false)
  (sb_NotKept_NotBegun:subIn K (.ref C_NotKept) (.ref C_NotBegun)=some false)
  (sb_NotKept_Taken:subIn K (.ref C_NotKept) (.ref C_Taken)=some false)
  (sb_NotKept_TooMany:subIn K (.ref C_NotKept) (.ref C_TooMany)=some false)
  (sb_Taken_Taken:subIn K (.ref C_Taken) (.ref C_Taken)=some true)
  (sb_Taken_Doubled:subIn K (.ref C_Taken) (.ref C_Doubled)=some false)
  (sb_Taken_NoBooking:subIn K (.ref C_Taken) (.ref C_NoBooking)=some false)
  (sb_Taken_NoBreak:subIn K (.ref C_Taken) (.ref C_NoBreak)=some false)
  (sb_Taken_NoCounter:subIn K (.ref C_Taken) (.ref C_NoCounter)=some false)
  (sb_Taken_NoHours:subIn K (.ref C_Taken) (.ref C_NoHours)=some false)
  (sb_Taken_NoLine:subIn K (.ref C_Taken) (.ref C_NoLine)=some false)
  (sb_Taken_NoName:subIn K (.ref C_Taken) (.ref C_NoName)=some false)
  (sb_Taken_NoNumber:subIn K (.ref C_Taken) (.ref C_NoNumber)=some false)
  (sb_Taken_NoTicket:subIn K (.ref C_Taken) (.ref C_NoTicket)=some false)
  (sb_Taken_NotBegun:subIn K (.ref C_Taken) (.ref C_NotBegun)=some false)
  (sb_Taken_NotKept:subIn K (.ref C_Taken) (.ref C_NotKept)=some false)
  (sb_Taken_TooMany:subIn K (.ref C_Taken) (.ref C_TooMany)=some false)
  (sb_TooMany_TooMany:subIn K (.ref C_TooMany) (.ref C_TooMany)=some true)
  (sb_TooMany_Doubled:subIn K (.ref C_TooMany) (.ref C_Doubled)=some false)
  (sb_TooMany_NoBooking:subIn K (.ref C_TooMany) (.ref C_NoBooking)=some false)
  (sb_TooMany_NoBreak:subIn K (.ref C_TooMany) (.ref C_NoBreak)=some false)
  (sb_TooMany_NoCounter:subIn K (.ref C_TooMany) (.ref C_NoCounter)=some false)
  (sb_TooMany_NoHours:subIn K (.ref C_TooMany) (.ref C_NoHours)=some false)
  (sb_TooMany_NoLine:subIn K (.ref C_TooMany) (.ref C_NoLine)=some false)
  (sb_TooMany_NoName:subIn K (.ref C_TooMany) (.ref C_NoName)=some false)
  (sb_TooMany_NoNumber:subIn K (.ref C_TooMany) (.ref C_NoNumber)=some false)
  (sb_TooMany_NoTicket:subIn K (.ref C_TooMany) (.ref C_NoTicket)=some false)
  (sb_TooMany_NotBegun:subIn K (.ref C_TooMany) (.ref C_NotBegun)=some false)
  (sb_TooMany_NotKept:subIn K (.ref C_TooMany) (.ref C_NotKept)=some false)
  (sb_TooMany_Taken:subIn K (.ref C_TooMany) (.ref C_Taken)=some false)
  (ty_HallError:PySem.W.typeIn K (.ref C_HallError)=some (.type "type"))
  (sb_NoLine_HallError:subIn K (.ref C_NoLine) (.ref C_HallError)=some true)
  (sb_NoName_HallError:subIn K (.ref C_NoName) (.ref C_HallError)=some true)
  (sb_NoNumber_HallError:subIn K (.ref C_NoNumber) (.ref C_HallError)=some true)
  (sb_TooMany_HallError:subIn K (.ref C_TooMany) (.ref C_HallError)=some true)
  (n_Hours_kept_rest:findIn K (.ref C_Hours) "kept_rest" = some none)
  (n_Hours_spans:findIn K (.ref C_Hours) "spans" = some none)
  (b_ValueError:nsIn K mainGlobals "ValueError" = some none)
  (b_all:nsIn K mainGlobals "all" = some none)
  (b_bool:nsIn K mainGlobals "bool" = some none)
  (b_enumerate:nsIn K mainGlobals "enumerate" = some none)
  (b_int:nsIn K mainGlobals "int" = some none)
  (b_isinstance:nsIn K mainGlobals "isinstance" = some none)
  (b_len:nsIn K mainGlobals "len" = some none)
  (b_list:nsIn K mainGlobals "list" = some none)
  (b_range:nsIn K mainGlobals "range" = some none)
  (b_str:nsIn K mainGlobals "str" = some none)
  (b_tuple:nsIn K mainGlobals "tuple" = some none)
  (c_FIGURES:nsIn K mainGlobals "FIGURES" = some (some (.str "0123456789" t_FIGURES)))
  (c_LETTERS:nsIn K mainGlobals "LETTERS" = some (some (.str "abcdefghijklmnopqrstuvwxyz" t_LETTERS)))
  (c_MOST_COUNTERS:nsIn K mainGlobals "MOST_COUNTERS" = some (some (.int 8 t_MOST_COUNTERS)))
  (c_MOST_ROWS:nsIn K mainGlobals "MOST_ROWS" = some (some (.int 16 t_MOST_ROWS)))
  (c_MOST_SIGNS:nsIn K mainGlobals "MOST_SIGNS" = some (some (.int 8 t_MOST_SIGNS)))
  (c_MOST_TURNS:nsIn K mainGlobals "MOST_TURNS" = some (some (.int 100 t_MOST_TURNS)))
  : ∃fd:FuncData,(∀(s:Shared) (v:Value),BindsTo s fd ⟨[v],[]⟩ [("_law_script",v)])/\∀base:Heap,K.In base->base.Ns mainGlobals mg->FnOk l.prog w K mg base CX0 8 fa fd ["_law_script"] (spOut K):=by
 have e:=hfa.symm.trans (mg_of X G a25)
 cases e
 obtain⟨C,eC_Hours,eC_Doubled,eC_Taken,eC_NoTicket,eC_NotBegun,eC_NoBooking,eC_NotKept,eC_NoCounter,eC_TooMany,eC_NoName,eC_NoNumber,eC_NoHours,eC_NoLine,eC_NoBreak,eC_HallError⟩:∃C:Str->Addr,C "Hours" = C_Hours/\C "Doubled" = C_Doubled/\C "Taken" = C_Taken/\C "NoTicket" = C_NoTicket/\C "NotBegun" = C_NotBegun/\C "NoBooking" = C_NoBooking/\C "NotKept" = C_NotKept/\C "NoCounter" = C_NoCounter/\C "TooMany" = C_TooMany/\C "NoName" = C_NoName/\C "NoNumber" = C_NoNumber/\C "NoHours" = C_NoHours/\C "NoLine" = C_NoLine/\C "NoBreak" = C_NoBreak/\C "HallError" = C_HallError:=⟨λs=>if s = "Hours" then C_Hours else if s = "Doubled" then C_Doubled else if s = "Taken" then C_Taken else if s = "NoTicket" then C_NoTicket else if s = "NotBegun" then C_NotBegun else if s = "NoBooking" then C_NoBooking else if s = "NotKept" then C_NotKept else if s = "NoCounter" then C_NoCounter else if s = "TooMany" then C_TooMany else if s = "NoName" then C_NoName else if s = "NoNumber" then C_NoNumber else if s = "NoHours" then C_NoHours else if s = "NoLine" then C_NoLine else if s = "NoBreak" then C_NoBreak else if s = "HallError" then C_HallError else 0,if_pos rfl,(if_neg (by decide +kernel)).trans <| if_pos rfl,(if_neg (by decide +kernel)).trans <| (if_neg (by decide +kernel)).trans <| if_pos rfl,(if_neg (by decide +kernel)).trans <| (if_neg (by decide +kernel)).trans <| (if_neg (by decide +kernel)).trans <| if_pos rfl,(if_neg (by decide +kernel)).trans <| (if_neg (by decide +kernel)).trans <| (if_neg (by decide +kernel)).trans <| (if_neg (by decide +kernel)).trans <| if_pos rfl,(if_neg (by decide +kernel)).trans <| (if_neg (by decide +kernel)).trans <| (if_neg (by decide +kernel)).trans <| (if_neg (by decide +kernel)).trans <| (if_neg (by decide +kernel)).trans <| if_pos rfl,(if_neg (by decide +kernel)).trans <| (if_neg (by decide +kernel)).trans <| (if_neg (by decide +kernel)).trans <| (if_neg (by decide +kernel)).trans <| (if_neg (by decide +kernel)).trans <| (if_neg (by decide +kernel)).trans <| if_pos rfl,(if_neg (by decide +kernel)).trans <| (if_neg (by decide +kernel)).trans <| (if_neg (by decide +kernel)).trans <| (if_neg (by decide +kernel)).trans <| (if_neg (by decide +kernel)).trans <| (if_neg (by decide +kernel)).trans <| (if_neg (by decide +kernel)).trans <| if_pos rfl,(if_neg (by decide +kernel)).trans <| (if_neg (by decide +kernel)).trans <| (if_neg (by decide +kernel)).trans <| (if_neg (by decide +kernel)).trans <| (if_neg (by decide +kernel)).trans <| (if_neg (by decide +kernel)).trans <| (if_neg (by decide +kernel)).trans <| (if_neg (by decide +kernel)).trans <| if_pos rfl,(if_neg (by decide +kernel)).trans <| (if_neg (by decide +kernel)).trans <| (if_neg (by decide +kernel)).trans <| (if_neg (by decide +kernel)).trans <| (if_neg (by decide +kernel)).trans <| (if_neg (by decide +kernel)).trans <| (if_neg (by decide +kernel)).trans <| (if_neg (by decide +kernel)).trans <| (if_neg (by decide +kernel)).trans <| if_pos rfl,(if_neg (by decide +kernel)).trans <| (if_neg (by decide +kernel)).trans <| (if_neg (by decide +kernel)).trans <| (if_neg (by decide +kernel)).trans <| (if_neg (by decide +kernel)).trans <| (if_neg (by decide +kernel)).trans <| (if_neg (by decide +kernel)).trans <| (if_neg (by decide +kernel)).trans <| (if_neg (by decide +kernel)).trans <| (if_neg (by decide +kernel)).trans <| if_pos rfl,(if_neg (by decide +kernel)).trans <| (if_neg (by decide +kernel)).trans <| (if_neg (by decide +kernel)).trans <| (if_neg (by decide +kernel)).trans <| (if_neg (by decide +kernel)).trans <| (if_neg (by decide +kernel)).trans <| (if_neg (by decide +kernel)).trans <| (if_neg (by decide +kernel)).trans <| (if_neg (by decide +kernel)).trans <| (if_neg (by decide +kernel)).trans <| (if_neg (by decide +kernel)).trans <| if_pos rfl,(if_neg (by decide +kernel)).trans <| (if_neg (by decide +kernel)).trans <| (if_neg (by decide +kernel)).trans <| (if_neg (by decide +kernel)).trans <| (if_neg (by decide +kernel)).trans <| (if_neg (by decide +kernel)).trans <| (if_neg (by decide +kernel)).trans <| (if_neg (by decide +kernel)).trans <| (if_neg (by decide +kernel)).trans <| (if_neg (by decide +kernel)).trans <| (if_neg (by decide +kernel)).trans <| (if_neg (by decide +kernel)).trans <| if_pos rfl,(if_neg (by decide +kernel)).trans <| (if_neg (by decide +kernel)).trans <| (if_neg (by decide +kernel)).trans <| (if_neg (by decide +kernel)).trans <| (if_neg (by decide +kernel)).trans <| (if_neg (by decide +kernel)).trans <| (if_neg (by decide +kernel)).trans <| (if_neg (by decide +kernel)).trans <| (if_neg (by decide +kernel)).trans <| (if_neg (by decide +kernel)).trans <| (if_neg (by decide +kernel)).trans <| (if_neg (by decide +kernel)).trans <| (if_neg (by decide +kernel)).trans <| if_pos rfl,(if_neg (by decide +kernel)).trans <| (if_neg (by decide +kernel)).trans <| (if_neg (by decide +kernel)).trans <| (if_neg (by decide +kernel)).trans <| (if_neg (by decide +kernel)).trans <| (if_neg (by decide +kernel)).trans <| (if_neg (by decide +kernel)).trans <| (if_neg (by decide +kernel)).trans <| (if_neg (by decide +kernel)).trans <| (if_neg (by decide +kernel)).trans <| (if_neg (by decide +kernel)).trans <| (if_neg (by decide +kernel)).trans <| (if_neg (by decide +kernel)).trans <| (if_neg (by decide +kernel)).trans <| if_pos rfl⟩
 subst eC_Hours
 subst eC_Doubled
 subst eC_Taken
 subst eC_NoTicket
 subst eC_NotBegun
 subst eC_NoBooking
 subst eC_NotKept
 subst eC_NoCounter
 subst eC_TooMany
 subst eC_NoName
 subst eC_NoNumber
 subst eC_NoHours
 subst eC_NoLine
 subst eC_NoBreak
 subst eC_HallError
 have T:Txt K mg C:=⟨⟨pg_Hours,hd_Hours,po_Hours,sa_Hours⟩,n_Hours_kept_rest,n_Hours_spans,PySem.W.mg_none_of X G b_ValueError,PySem.W.mg_none_of X G b_all,PySem.W.mg_none_of X G b_bool,PySem.W.mg_none_of X G b_enumerate,PySem.W.mg_none_of X G b_int,PySem.W.mg_none_of X G b_isinstance,PySem.W.mg_none_of X G b_len,PySem.W.mg_none_of X G b_list,PySem.W.mg_none_of X G b_range,PySem.W.mg_none_of X G b_str,PySem.W.mg_none_of X G b_tuple,⟨_,mg_of X G c_FIGURES⟩,⟨_,mg_of X G c_LETTERS⟩,⟨_,mg_of X G c_MOST_COUNTERS⟩,⟨_,mg_of X G c_MOST_ROWS⟩,⟨_,mg_of X G c_MOST_SIGNS⟩,⟨_,mg_of X G c_MOST_TURNS⟩⟩
 have F0:=zx (st:=wm) l0 c0 k0
 have bb0:=F0.binds (ps:=["thing"]) λ_ _ _ _ _ _=>bd1 λ_=>rfl
 have F1:=zx (st:=w9) l1 c1 k1
 have bb1:=F1.binds (ps:=["thing","low","high"]) λ_ _ _ _ _ _=>bd3 λ_ _ _=>rfl
 have F2:=zx (st:=xr) l2 c2 k2
 have bb2:=F2.binds (ps:=["thing"]) λ_ _ _ _ _ _=>bd1 λ_=>rfl
 have F3:=zx (st:=xV) l3 c3 k3
 have bb3:=F3.binds (ps:=["thing"]) λ_ _ _ _ _ _=>bd1 λ_=>rfl
 have F4:=zx (st:=y6) l4 c4 k4
 have bb4:=F4.binds (ps:=["rows","rest"]) λ_ _ _ _ _ _=>bd2 λ_ _=>rfl
 have F5:=zx (st:=wb) l5 c5 k5
 have bb5:=F5.binds (ps:=["rows","rest"]) λ_ _ _ _ _ _=>bd2 λ_ _=>rfl
 have F6:=zx (st:=wH) l6 c6 k6
 have bb6:=F6.binds (ps:=["rows"]) λ_ _ _ _ _ _=>bd1 λ_=>rfl
 have F7:=zx (st:=xy) l7 c7 k7
 have bb7:=F7.binds (ps:=["self","rows","rest"]) λ_ _ _ _ _ _=>bd3 λ_ _ _=>rfl
 have F8:=zx (st:=xD) l8 c8 k8
 have bb8:=F8.binds (ps:=["self"]) λ_ _ _ _ _ _=>bd1 λ_=>rfl
 have F9:=zx (st:=wt) l9 c9 k9
 have bb9:=F9.binds (ps:=["self"]) λ_ _ _ _ _ _=>bd1 λ_=>rfl
 have F10:=zx (st:=wV) l10 c10 k10
 have bb10:=F10.binds (ps:=["self"]) λ_ _ _ _ _ _=>bd1 λ_=>rfl
 have F11:=zx (st:=wq) l11 c11 k11
 have bb11:=F11.binds (ps:=["self","turn"]) λ_ _ _ _ _ _=>bd2 λ_ _=>rfl
 have F12:=zx (st:=wY) l12 c12 k12
 have bb12:=F12.binds (ps:=["_law_script","_law_k"]) λ_ _ _ _ _ _=>bd2 λ_ _=>rfl
 have F13:=zx (st:=wj) l13 c13 k13
 have bb13:=F13.binds (ps:=["_law_cell_here","_law_k"]) λ_ _ _ _ _ _=>bd2 λ_ _=>rfl
 have F14:=zx (st:=wB) l14 c14 k14
 have bb14:=F14.binds (ps:=["_law_script","_law_at","_law_base","_law_count"]) λ_ _ _ _ _ _=>bd4 λ_ _ _ _=>rfl
 have F15:=zx (st:=wu) l15 c15 k15
 have bb15:=F15.binds (ps:=["_law_e"]) λ_ _ _ _ _ _=>bd1 λ_=>rfl
 have F16:=zx (st:=xR) l16 c16 k16
 have bb16:=F16.binds (ps:=["_law_e","_law_at"]) λ_ _ _ _ _ _=>bd2 λ_ _=>rfl
 have F17:=zx (st:=wX) l17 c17 k17
 have bb17:=F17.binds (ps:=["_law_name","_law_one","_law_other"]) λ_ _ _ _ _ _=>bd3 λ_ _ _=>rfl
 have F18:=zx (st:=yR) l18 c18 k18
 have bb18:=F18.binds (ps:=["_law_script"]) λ_ _ _ _ _ _=>bd1 λ_=>rfl
 have F19:=zx (st:=xt) l19 c19 k19
 have bb19:=F19.binds (ps:=["_law_text_here"]) λ_ _ _ _ _ _=>bd1 λ_=>rfl
 have F20:=zx (st:=wO) l20 c20 k20
 have bb20:=F20.binds (ps:=["_law_found","_law_due"]) λ_ _ _ _ _ _=>bd2 λ_ _=>rfl
 have F21:=zx (st:=wx) l21 c21 k21
 have bb21:=F21.binds (ps:=["_law_text_here","_law_number"]) λ_ _ _ _ _ _=>bd2 λ_ _=>rfl
 have F22:=zx (st:=w6) l22 c22 k22
 have bb22:=F22.binds (ps:=["_law_cell_here","_law_low","_law_high"]) λ_ _ _ _ _ _=>bd3 λ_ _ _=>rfl
 have F23:=zx (st:=w5) l23 c23 k23
 have bb23:=F23.binds (ps:=["_law_cell_here"]) λ_ _ _ _ _ _=>bd1 λ_=>rfl
 have F24:=zx (st:=wF) l24 c24 k24
 have bb24:=F24.binds (ps:=["_law_rows","_law_rest"]) λ_ _ _ _ _ _=>bd2 λ_ _=>rfl
 have F25:=zx (st:=y3) l25 c25 k25
 have FI_Doubled:=zx (st:=wM) xli_Doubled xci_Doubled xki_Doubled
 have bbI_Doubled:=FI_Doubled.binds (ps:=["self","name"]) λ_ _ _ _ _ _=>bd2 λ_ _=>rfl
 have xc_Doubled:XC K (C "Doubled") (C "HallError") fI_Doubled "name" := ⟨⟨dd_Doubled,cd_Doubled,k0_Doubled,k1_Doubled,k2_Doubled,k3_Doubled,k5_Doubled,bm_Doubled,xl_Doubled,xmr_Doubled,xdl_Doubled,xtl_Doubled,xok_Doubled,xin_Doubled⟩,⟨_,xli_Doubled,rfl⟩,xkp_Doubled,sa_Doubled,xtk_Doubled,xhd_Doubled,be_Doubled,sb_Doubled_HallError,ga_Doubled,gt_Doubled,na_Doubled,xrd,xfc,xsp⟩
 have FI_NoBooking:=zx (st:=wG) xli_NoBooking xci_NoBooking xki_NoBooking
 have bbI_NoBooking:=FI_NoBooking.binds (ps:=["self","name"]) λ_ _ _ _ _ _=>bd2 λ_ _=>rfl
 have xc_NoBooking:XC K (C "NoBooking") (C "HallError") fI_NoBooking "name" := ⟨⟨dd_NoBooking,cd_NoBooking,k0_NoBooking,k1_NoBooking,k2_NoBooking,k3_NoBooking,k5_NoBooking,bm_NoBooking,xl_NoBooking,xmr_NoBooking,xdl_NoBooking,xtl_NoBooking,xok_NoBooking,xin_NoBooking⟩,⟨_,xli_NoBooking,rfl⟩,xkp_NoBooking,sa_NoBooking,xtk_NoBooking,xhd_NoBooking,be_NoBooking,sb_NoBooking_HallError,ga_NoBooking,gt_NoBooking,na_NoBooking,xrd,xfc,xsp⟩
 have FI_NoCounter:=zx (st:=wd) xli_NoCounter xci_NoCounter xki_NoCounter
 have bbI_NoCounter:=FI_NoCounter.binds (ps:=["self","turn"]) λ_ _ _ _ _ _=>bd2 λ_ _=>rfl
 have xc_NoCounter:XC K (C "NoCounter") (C "HallError") fI_NoCounter "turn" := ⟨⟨dd_NoCounter,cd_NoCounter,k0_NoCounter,k1_NoCounter,k2_NoCounter,k3_NoCounter,k5_NoCounter,bm_NoCounter,xl_NoCounter,xmr_NoCounter,xdl_NoCounter,xtl_NoCounter,xok_NoCounter,xin_NoCounter⟩,⟨_,xli_NoCounter,rfl⟩,xkp_NoCounter,sa_NoCounter,xtk_NoCounter,xhd_NoCounter,be_NoCounter,sb_NoCounter_HallError,ga_NoCounter,gt_NoCounter,na_NoCounter,xrd,xfc,xsp⟩
 have FI_NoTicket:=zx (st:=wU) xli_NoTicket xci_NoTicket xki_NoTicket
 have bbI_NoTicket:=FI_NoTicket.binds (ps:=["self","name"]) λ_ _ _ _ _ _=>bd2 λ_ _=>rfl
 have xc_NoTicket:XC K (C "NoTicket") (C "HallError") fI_NoTicket "name" := ⟨⟨dd_NoTicket,cd_NoTicket,k0_NoTicket,k1_NoTicket,k2_NoTicket,k3_NoTicket,k5_NoTicket,bm_NoTicket,xl_NoTicket,xmr_NoTicket,xdl_NoTicket,xtl_NoTicket,xok_NoTicket,xin_NoTicket⟩,⟨_,xli_NoTicket,rfl⟩,xkp_NoTicket,sa_NoTicket,xtk_NoTicket,xhd_NoTicket,be_NoTicket,sb_NoTicket_HallError,ga_NoTicket,gt_NoTicket,na_NoTicket,xrd,xfc,xsp⟩
 have FI_NotBegun:=zx (st:=wg) xli_NotBegun xci_NotBegun xki_NotBegun
 have bbI_NotBegun:=FI_NotBegun.binds (ps:=["self","name"]) λ_ _ _ _ _ _=>bd2 λ_ _=>rfl
 have xc_NotBegun:XC K (C "NotBegun") (C "HallError") fI_NotBegun "name" := ⟨⟨dd_NotBegun,cd_NotBegun,k0_NotBegun,k1_NotBegun,k2_NotBegun,k3_NotBegun,k5_NotBegun,bm_NotBegun,xl_NotBegun,xmr_NotBegun,xdl_NotBegun,xtl_NotBegun,xok_NotBegun,xin_NotBegun⟩,⟨_,xli_NotBegun,rfl⟩,xkp_NotBegun,sa_NotBegun,xtk_NotBegun,xhd_NotBegun,be_NotBegun,sb_NotBegun_HallError,ga_NotBegun,gt_NotBegun,na_NotBegun,xrd,xfc,xsp⟩
 have FI_NotKept:=zx (st:=xY) xli_NotKept xci_NotKept xki_NotKept
 have bbI_NotKept:=FI_NotKept.binds (ps:=["self","name"]) λ_ _ _ _ _ _=>bd2 λ_ _=>rfl
 have xc_NotKept:XC K (C "NotKept") (C "HallError") fI_NotKept "name" := ⟨⟨dd_NotKept,cd_NotKept,k0_NotKept,k1_NotKept,k2_NotKept,k3_NotKept,k5_NotKept,bm_NotKept,xl_NotKept,xmr_NotKept,xdl_NotKept,xtl_NotKept,xok_NotKept,xin_NotKept⟩,⟨_,xli_NotKept,rfl⟩,xkp_NotKept,sa_NotKept,xtk_NotKept,xhd_NotKept,be_NotKept,sb_NotKept_HallError,ga_NotKept,gt_NotKept,na_NotKept,xrd,xfc,xsp⟩
 have FI_Taken:=zx (st:=ve) xli_Taken xci_Taken xki_Taken
 have bbI_Taken:=FI_Taken.binds (ps:=["self","name"]) λ_ _ _ _ _ _=>bd2 λ_ _=>rfl
 have xc_Taken:XC K (C "Taken") (C "HallError") fI_Taken "name" := ⟨⟨dd_Taken,cd_Taken,k0_Taken,k1_Taken,k2_Taken,k3_Taken,k5_Taken,bm_Taken,xl_Taken,xmr_Taken,xdl_Taken,xtl_Taken,xok_Taken,xin_Taken⟩,⟨_,xli_Taken,rfl⟩,xkp_Taken,sa_Taken,xtk_Taken,xhd_Taken,be_Taken,sb_Taken_HallError,ga_Taken,gt_Taken,na_Taken,xrd,xfc,xsp⟩
 have FI_NoBreak:=zx (st:=wK) xli_NoBreak xci_NoBreak xki_NoBreak
 have bbI_NoBreak:=FI_NoBreak.binds (ps:=["self","first","last"]) λ_ _ _ _ _ _=>bd3 λ_ _ _=>rfl
 have xd_NoBreak:XC K (C "NoBreak") (C "HallError") fI_NoBreak "last" := ⟨⟨dd_NoBreak,cd_NoBreak,k0_NoBreak,k1_NoBreak,k2_NoBreak,k3_NoBreak,k5_NoBreak,bm_NoBreak,xl_NoBreak,xmr_NoBreak,xdl_NoBreak,xtl_NoBreak,xok_NoBreak,xin_NoBreak⟩,⟨_,xli_NoBreak,rfl⟩,xkp_NoBreak,sa_NoBreak,xtk2_NoBreak,xhd_NoBreak,be_NoBreak,sb_NoBreak_HallError,ga_NoBreak,gt_NoBreak,nb_NoBreak,xrd,xfc,xsp⟩
 have xc_NoBreak:XC K (C "NoBreak") (C "HallError") fI_NoBreak "first" := ⟨⟨dd_NoBreak,cd_NoBreak,k0_NoBreak,k1_NoBreak,k2_NoBreak,k3_NoBreak,k5_NoBreak,bm_NoBreak,xl_NoBreak,xmr_NoBreak,xdl_NoBreak,xtl_NoBreak,xok_NoBreak,xin_NoBreak⟩,⟨_,xli_NoBreak,rfl⟩,xkp_NoBreak,sa_NoBreak,xtk_NoBreak,xhd_NoBreak,be_NoBreak,sb_NoBreak_HallError,ga_NoBreak,gt_NoBreak,na_NoBreak,xrd,xfc,xsp⟩
 refine⟨fnOf "law" "law" (zu y3) (zq y3) (ze y3) .none kV25 dc25 pm25 an25 cd25 ct25,λs v=>.of_eq rfl,λbase _ _=>?_⟩
 have U:Exs l.prog w K mg base C:=⟨⟨fI_Doubled,xc_Doubled,_,_,Vx FI_Doubled xc_Doubled (mg_of X G tt_HallError),bbI_Doubled⟩,⟨fI_NoBooking,xc_NoBooking,_,_,Ku FI_NoBooking xc_NoBooking (mg_of X G tt_HallError),bbI_NoBooking⟩,⟨fI_NoCounter,xc_NoCounter,_,_,Wg FI_NoCounter xc_NoCounter (mg_of X G tt_HallError),bbI_NoCounter⟩,⟨fI_NoTicket,xc_NoTicket,_,_,Kt FI_NoTicket xc_NoTicket (mg_of X G tt_HallError),bbI_NoTicket⟩,⟨fI_NotBegun,xc_NotBegun,_,_,Y0 FI_NotBegun xc_NotBegun (mg_of X G tt_HallError),bbI_NotBegun⟩,⟨fI_NotKept,xc_NotKept,_,_,Vt FI_NotKept xc_NotKept (mg_of X G tt_HallError),bbI_NotKept⟩,⟨fI_Taken,xc_Taken,_,_,KZ FI_Taken xc_Taken (mg_of X G tt_HallError),bbI_Taken⟩,⟨be_Doubled,cl_Doubled,ga_Doubled,gt_Doubled,cc_Doubled,xcg,xct,mo_Doubled⟩,⟨be_NoBooking,cl_NoBooking,ga_NoBooking,gt_NoBooking,cc_NoBooking,xcg,xct,mo_NoBooking⟩,⟨be_NoBreak,cl_NoBreak,ga_NoBreak,gt_NoBreak,cc_NoBreak,xcg,xct,mo_NoBreak⟩,⟨be_NoCounter,cl_NoCounter,ga_NoCounter,gt_NoCounter,cc_NoCounter,xcg,xct,mo_NoCounter⟩,⟨be_NoHours,cl_NoHours,ga_NoHours,gt_NoHours,cc_NoHours,xcg,xct,mo_NoHours⟩,⟨be_NoLine,cl_NoLine,ga_NoLine,gt_NoLine,cc_NoLine,xcg,xct,mo_NoLine⟩,⟨be_NoName,cl_NoName,ga_NoName,gt_NoName,cc_NoName,xcg,xct,mo_NoName⟩,⟨be_NoNumber,cl_NoNumber,ga_NoNumber,gt_NoNumber,cc_NoNumber,xcg,xct,mo_NoNumber⟩,⟨be_NoTicket,cl_NoTicket,ga_NoTicket,gt_NoTicket,cc_NoTicket,xcg,xct,mo_NoTicket⟩,⟨be_NotBegun,cl_NotBegun,ga_NotBegun,gt_NotBegun,cc_NotBegun,xcg,xct,mo_NotBegun⟩,⟨be_NotKept,cl_NotKept,ga_NotKept,gt_NotKept,cc_NotKept,xcg,xct,mo_NotKept⟩,⟨be_Taken,cl_Taken,ga_Taken,gt_Taken,cc_Taken,xcg,xct,mo_Taken⟩,⟨be_TooMany,cl_TooMany,ga_TooMany,gt_TooMany,cc_TooMany,xcg,xct,mo_TooMany⟩,⟨fI_NoBreak,xc_NoBreak,xd_NoBreak,_,_,KD FI_NoBreak xc_NoBreak xd_NoBreak (mg_of X G tt_HallError),bbI_NoBreak⟩,mg_of X G tt_Doubled,mg_of X G tt_HallError,mg_of X G tt_NoBooking,mg_of X G tt_NoBreak,mg_of X G tt_NoCounter,mg_of X G tt_NoHours,mg_of X G tt_NoLine,mg_of X G tt_NoName,mg_of X G tt_NoNumber,mg_of X G tt_NoTicket,mg_of X G tt_NotBegun,mg_of X G tt_NotKept,mg_of X G tt_Taken,mg_of X G tt_TooMany,yq (by decide +kernel) su_Doubled_ValueError,yq (by decide +kernel) su_NoBooking_ValueError,yq (by decide +kernel) su_NoBreak_ValueError,yq (by decide +kernel) su_NoCounter_ValueError,yq (by decide +kernel) su_NoHours_ValueError,yq (by decide +kernel) su_NoLine_ValueError,yq (by decide +kernel) su_NoName_ValueError,yq (by decide +kernel) su_NoNumber_ValueError,yq (by decide +kernel) su_NoTicket_ValueError,yq (by decide +kernel) su_NotBegun_ValueError,yq (by decide +kernel) su_NotKept_ValueError,yq (by decide +kernel) su_Taken_ValueError,yq (by decide +kernel) su_TooMany_ValueError,⟨⟨dd_NoHours,cd_NoHours,k0_NoHours,k1_NoHours,k2_NoHours,k3_NoHours,k5_NoHours,bm_NoHours,xl_NoHours,xmr_NoHours,xdl_NoHours,xtl_NoHours,xok_NoHours,xin_NoHours⟩,xkp_NoHours⟩,⟨⟨dd_NoLine,cd_NoLine,k0_NoLine,k1_NoLine,k2_NoLine,k3_NoLine,k5_NoLine,bm_NoLine,xl_NoLine,xmr_NoLine,xdl_NoLine,xtl_NoLine,xok_NoLine,xin_NoLine⟩,xkp_NoLine⟩,⟨⟨dd_NoName,cd_NoName,k0_NoName,k1_NoName,k2_NoName,k3_NoName,k5_NoName,bm_NoName,xl_NoName,xmr_NoName,xdl_NoName,xtl_NoName,xok_NoName,xin_NoName⟩,xkp_NoName⟩,⟨⟨dd_NoNumber,cd_NoNumber,k0_NoNumber,k1_NoNumber,k2_NoNumber,k3_NoNumber,k5_NoNumber,bm_NoNumber,xl_NoNumber,xmr_NoNumber,xdl_NoNumber,xtl_NoNumber,xok_NoNumber,xin_NoNumber⟩,xkp_NoNumber⟩,⟨⟨dd_TooMany,cd_TooMany,k0_TooMany,k1_TooMany,k2_TooMany,k3_TooMany,k5_TooMany,bm_TooMany,xl_TooMany,xmr_TooMany,xdl_TooMany,xtl_TooMany,xok_TooMany,xin_TooMany⟩,xkp_TooMany⟩,⟨sb_NoHours_HallError,nt_HallError,cl_HallError,be_HallError⟩,za sb_Doubled_Doubled cl_NoBooking ty_NoBooking sb_Doubled_NoBooking,za sb_Doubled_Doubled cl_NoBreak ty_NoBreak sb_Doubled_NoBreak,za sb_Doubled_Doubled cl_NoCounter ty_NoCounter sb_Doubled_NoCounter,za sb_Doubled_Doubled cl_NoHours ty_NoHours sb_Doubled_NoHours,za sb_Doubled_Doubled cl_NoLine ty_NoLine sb_Doubled_NoLine,za sb_Doubled_Doubled cl_NoName ty_NoName sb_Doubled_NoName,za sb_Doubled_Doubled cl_NoNumber ty_NoNumber sb_Doubled_NoNumber,za sb_Doubled_Doubled cl_NoTicket ty_NoTicket sb_Doubled_NoTicket,za sb_Doubled_Doubled cl_NotBegun ty_NotBegun sb_Doubled_NotBegun,za sb_Doubled_Doubled cl_NotKept ty_NotKept sb_Doubled_NotKept,za sb_Doubled_Doubled cl_Taken ty_Taken sb_Doubled_Taken,za sb_Doubled_Doubled cl_TooMany ty_TooMany sb_Doubled_TooMany,za sb_NoBooking_NoBooking cl_Doubled ty_Doubled sb_NoBooking_Doubled,za sb_NoBooking_NoBooking cl_NoBreak ty_NoBreak sb_NoBooking_NoBreak,za sb_NoBooking_NoBooking cl_NoCounter ty_NoCounter sb_NoBooking_NoCounter,za sb_NoBooking_NoBooking cl_NoHours ty_NoHours sb_NoBooking_NoHours,za sb_NoBooking_NoBooking cl_NoLine ty_NoLine sb_NoBooking_NoLine,za sb_NoBooking_NoBooking cl_NoName ty_NoName sb_NoBooking_NoName,za sb_NoBooking_NoBooking cl_NoNumber ty_NoNumber sb_NoBooking_NoNumber,za sb_NoBooking_NoBooking cl_NoTicket ty_NoTicket sb_NoBooking_NoTicket,za sb_NoBooking_NoBooking cl_NotBegun ty_NotBegun sb_NoBooking_NotBegun,za sb_NoBooking_NoBooking cl_NotKept ty_NotKept sb_NoBooking_NotKept,za sb_NoBooking_NoBooking cl_Taken ty_Taken sb_NoBooking_Taken,za sb_NoBooking_NoBooking cl_TooMany ty_TooMany sb_NoBooking_TooMany,za sb_NoBreak_NoBreak cl_Doubled ty_Doubled sb_NoBreak_Doubled,za sb_NoBreak_NoBreak cl_NoBooking ty_NoBooking sb_NoBreak_NoBooking,za sb_NoBreak_NoBreak cl_NoCounter ty_NoCounter sb_NoBreak_NoCounter,za sb_NoBreak_NoBreak cl_NoHours ty_NoHours sb_NoBreak_NoHours,za sb_NoBreak_NoBreak cl_NoLine ty_NoLine sb_NoBreak_NoLine,za sb_NoBreak_NoBreak cl_NoName ty_NoName sb_NoBreak_NoName,za sb_NoBreak_NoBreak cl_NoNumber ty_NoNumber sb_NoBreak_NoNumber,za sb_NoBreak_NoBreak cl_NoTicket ty_NoTicket sb_NoBreak_NoTicket,za sb_NoBreak_NoBreak cl_NotBegun ty_NotBegun sb_NoBreak_NotBegun,za sb_NoBreak_NoBreak cl_NotKept ty_NotKept sb_NoBreak_NotKept,za sb_NoBreak_NoBreak cl_Taken ty_Taken sb_NoBreak_Taken,za sb_NoBreak_NoBreak cl_TooMany ty_TooMany sb_NoBreak_TooMany,za sb_NoCounter_NoCounter cl_Doubled ty_Doubled sb_NoCounter_Doubled,za sb_NoCounter_NoCounter cl_NoBooking ty_NoBooking sb_NoCounter_NoBooking,za sb_NoCounter_NoCounter cl_NoBreak ty_NoBreak sb_NoCounter_NoBreak,za sb_NoCounter_NoCounter cl_NoHours ty_NoHours sb_NoCounter_NoHours,za sb_NoCounter_NoCounter cl_NoLine ty_NoLine sb_NoCounter_NoLine,za sb_NoCounter_NoCounter cl_NoName ty_NoName sb_NoCounter_NoName,za sb_NoCounter_NoCounter cl_NoNumber ty_NoNumber sb_NoCounter_NoNumber,za sb_NoCounter_NoCounter cl_NoTicket ty_NoTicket sb_NoCounter_NoTicket,za sb_NoCounter_NoCounter cl_NotBegun ty_NotBegun sb_NoCounter_NotBegun,za sb_NoCounter_NoCounter cl_NotKept ty_NotKept sb_NoCounter_NotKept,za sb_NoCounter_NoCounter cl_Taken ty_Taken sb_NoCounter_Taken,za sb_NoCounter_NoCounter cl_TooMany ty_TooMany sb_NoCounter_TooMany,za sb_NoHours_NoHours cl_Doubled ty_Doubled sb_NoHours_Doubled,za sb_NoHours_NoHours cl_NoBooking ty_NoBooking sb_NoHours_NoBooking,za sb_NoHours_NoHours cl_NoBreak ty_NoBreak sb_NoHours_NoBreak,za sb_NoHours_NoHours cl_NoCounter ty_NoCounter sb_NoHours_NoCounter,za sb_NoHours_NoHours cl_NoLine ty_NoLine sb_NoHours_NoLine,za sb_NoHours_NoHours cl_NoName ty_NoName sb_NoHours_NoName,za sb_NoHours_NoHours cl_NoNumber ty_NoNumber sb_NoHours_NoNumber,za sb_NoHours_NoHours cl_NoTicket ty_NoTicket sb_NoHours_NoTicket,za sb_NoHours_NoHours cl_NotBegun ty_NotBegun sb_NoHours_NotBegun,za sb_NoHours_NoHours cl_NotKept ty_NotKept sb_NoHours_NotKept,za sb_NoHours_NoHours cl_Taken ty_Taken sb_NoHours_Taken,za sb_NoHours_NoHours cl_TooMany ty_TooMany sb_NoHours_TooMany,za sb_NoLine_NoLine cl_Doubled ty_Doubled sb_NoLine_Doubled,za sb_NoLine_NoLine cl_NoBooking ty_NoBooking sb_NoLine_NoBooking,za sb_NoLine_NoLine cl_NoBreak ty_NoBreak sb_NoLine_NoBreak,za sb_NoLine_NoLine cl_NoCounter ty_NoCounter sb_NoLine_NoCounter,za sb_NoLine_NoLine cl_NoHours ty_NoHours sb_NoLine_NoHours,za sb_NoLine_NoLine cl_NoName ty_NoName sb_NoLine_NoName,za sb_NoLine_NoLine cl_NoNumber ty_NoNumber sb_NoLine_NoNumber,za sb_NoLine_NoLine cl_NoTicket ty_NoTicket sb_NoLine_NoTicket,za sb_NoLine_NoLine cl_NotBegun ty_NotBegun sb_NoLine_NotBegun,za sb_NoLine_NoLine cl_NotKept ty_NotKept sb_NoLine_NotKept,za sb_NoLine_NoLine cl_Taken ty_Taken sb_NoLine_Taken,za sb_NoLine_NoLine cl_TooMany ty_TooMany sb_NoLine_TooMany,za sb_NoName_NoName cl_Doubled ty_Doubled sb_NoName_Doubled,za sb_NoName_NoName cl_NoBooking ty_NoBooking sb_NoName_NoBooking,za sb_NoName_NoName cl_NoBreak ty_NoBreak sb_NoName_NoBreak,za sb_NoName_NoName cl_NoCounter ty_NoCounter sb_NoName_NoCounter,za sb_NoName_NoName cl_NoHours ty_NoHours sb_NoName_NoHours,za sb_NoName_NoName cl_NoLine ty_NoLine sb_NoName_NoLine,za sb_NoName_NoName cl_NoNumber ty_NoNumber sb_NoName_NoNumber,za sb_NoName_NoName cl_NoTicket ty_NoTicket sb_NoName_NoTicket,za sb_NoName_NoName cl_NotBegun ty_NotBegun sb_NoName_NotBegun,za sb_NoName_NoName cl_NotKept ty_NotKept sb_NoName_NotKept,za sb_NoName_NoName cl_Taken ty_Taken sb_NoName_Taken,za sb_NoName_NoName cl_TooMany ty_TooMany sb_NoName_TooMany,za sb_NoNumber_NoNumber cl_Doubled ty_Doubled sb_NoNumber_Doubled,za sb_NoNumber_NoNumber cl_NoBooking ty_NoBooking sb_NoNumber_NoBooking,za sb_NoNumber_NoNumber cl_NoBreak ty_NoBreak sb_NoNumber_NoBreak,za sb_NoNumber_NoNumber cl_NoCounter ty_NoCounter sb_NoNumber_NoCounter,za sb_NoNumber_NoNumber cl_NoHours ty_NoHours sb_NoNumber_NoHours,za sb_NoNumber_NoNumber cl_NoLine ty_NoLine sb_NoNumber_NoLine,za sb_NoNumber_NoNumber cl_NoName ty_NoName sb_NoNumber_NoName,za sb_NoNumber_NoNumber cl_NoTicket ty_NoTicket sb_NoNumber_NoTicket,za sb_NoNumber_NoNumber cl_NotBegun ty_NotBegun sb_NoNumber_NotBegun,za sb_NoNumber_NoNumber cl_NotKept ty_NotKept sb_NoNumber_NotKept,za sb_NoNumber_NoNumber cl_Taken ty_Taken sb_NoNumber_Taken,za sb_NoNumber_NoNumber cl_TooMany ty_TooMany sb_NoNumber_TooMany,za sb_NoTicket_NoTicket cl_Doubled ty_Doubled sb_NoTicket_Doubled,za sb_NoTicket_NoTicket cl_NoBooking ty_NoBooking sb_NoTicket_NoBooking,za sb_NoTicket_NoTicket cl_NoBreak ty_NoBreak sb_NoTicket_NoBreak,za sb_NoTicket_NoTicket cl_NoCounter ty_NoCounter sb_NoTicket_NoCounter,za sb_NoTicket_NoTicket cl_NoHours ty_NoHours sb_NoTicket_NoHours,za sb_NoTicket_NoTicket cl_NoLine ty_NoLine sb_NoTicket_NoLine,za sb_NoTicket_NoTicket cl_NoName ty_NoName sb_NoTicket_NoName,za sb_NoTicket_NoTicket cl_NoNumber ty_NoNumber sb_NoTicket_NoNumber,za sb_NoTicket_NoTicket cl_NotBegun ty_NotBegun sb_NoTicket_NotBegun,za sb_NoTicket_NoTicket cl_NotKept ty_NotKept sb_NoTicket_NotKept,za sb_NoTicket_NoTicket cl_Taken ty_Taken sb_NoTicket_Taken,za sb_NoTicket_NoTicket cl_TooMany ty_TooMany sb_NoTicket_TooMany,za sb_NotBegun_NotBegun cl_Doubled ty_Doubled sb_NotBegun_Doubled,za sb_NotBegun_NotBegun cl_NoBooking ty_NoBooking sb_NotBegun_NoBooking,za sb_NotBegun_NotBegun cl_NoBreak ty_NoBreak sb_NotBegun_NoBreak,za sb_NotBegun_NotBegun cl_NoCounter ty_NoCounter sb_NotBegun_NoCounter,za sb_NotBegun_NotBegun cl_NoHours ty_NoHours sb_NotBegun_NoHours,za sb_NotBegun_NotBegun cl_NoLine ty_NoLine sb_NotBegun_NoLine,za sb_NotBegun_NotBegun cl_NoName ty_NoName sb_NotBegun_NoName,za sb_NotBegun_NotBegun cl_NoNumber ty_NoNumber sb_NotBegun_NoNumber,za sb_NotBegun_NotBegun cl_NoTicket ty_NoTicket sb_NotBegun_NoTicket,za sb_NotBegun_NotBegun cl_NotKept ty_NotKept sb_NotBegun_NotKept,za sb_NotBegun_NotBegun cl_Taken ty_Taken sb_NotBegun_Taken,za sb_NotBegun_NotBegun cl_TooMany ty_TooMany sb_NotBegun_TooMany,za sb_NotKept_NotKept cl_Doubled ty_Doubled sb_NotKept_Doubled,za sb_NotKept_NotKept cl_NoBooking ty_NoBooking sb_NotKept_NoBooking,za sb_NotKept_NotKept cl_NoBreak ty_NoBreak sb_NotKept_NoBreak,za sb_NotKept_NotKept cl_NoCounter ty_NoCounter sb_NotKept_NoCounter,za sb_NotKept_NotKept cl_NoHours ty_NoHours sb_NotKept_NoHours,za sb_NotKept_NotKept cl_NoLine ty_NoLine sb_NotKept_NoLine,za sb_NotKept_NotKept cl_NoName ty_NoName sb_NotKept_NoName,za sb_NotKept_NotKept cl_NoNumber ty_NoNumber sb_NotKept_NoNumber,za sb_NotKept_NotKept cl_NoTicket ty_NoTicket sb_NotKept_NoTicket,za sb_NotKept_NotKept cl_NotBegun ty_NotBegun sb_NotKept_NotBegun,za sb_NotKept_NotKept cl_Taken ty_Taken sb_NotKept_Taken,za sb_NotKept_NotKept cl_TooMany ty_TooMany sb_NotKept_TooMany,za sb_Taken_Taken cl_Doubled ty_Doubled sb_Taken_Doubled,za sb_Taken_Taken cl_NoBooking ty_NoBooking sb_Taken_NoBooking,za sb_Taken_Taken cl_NoBreak ty_NoBreak sb_Taken_NoBreak,za sb_Taken_Taken cl_NoCounter ty_NoCounter sb_Taken_NoCounter,za sb_Taken_Taken cl_NoHours ty_NoHours sb_Taken_NoHours,za sb_Taken_Taken cl_NoLine ty_NoLine sb_Taken_NoLine,za sb_Taken_Taken cl_NoName ty_NoName sb_Taken_NoName,za sb_Taken_Taken cl_NoNumber ty_NoNumber sb_Taken_NoNumber,za sb_Taken_Taken cl_NoTicket ty_NoTicket sb_Taken_NoTicket,za sb_Taken_Taken cl_NotBegun ty_NotBegun sb_Taken_NotBegun,za sb_Taken_Taken cl_NotKept ty_NotKept sb_Taken_NotKept,za sb_Taken_Taken cl_TooMany ty_TooMany sb_Taken_TooMany,za sb_TooMany_TooMany cl_Doubled ty_Doubled sb_TooMany_Doubled,za sb_TooMany_TooMany cl_NoBooking ty_NoBooking sb_TooMany_NoBooking,za sb_TooMany_TooMany cl_NoBreak ty_NoBreak sb_TooMany_NoBreak,za sb_TooMany_TooMany cl_NoCounter ty_NoCounter sb_TooMany_NoCounter,za sb_TooMany_TooMany cl_NoHours ty_NoHours sb_TooMany_NoHours,za sb_TooMany_TooMany cl_NoLine ty_NoLine sb_TooMany_NoLine,za sb_TooMany_TooMany cl_NoName ty_NoName sb_TooMany_NoName,za sb_TooMany_TooMany cl_NoNumber ty_NoNumber sb_TooMany_NoNumber,za sb_TooMany_TooMany cl_NoTicket ty_NoTicket sb_TooMany_NoTicket,za sb_TooMany_TooMany cl_NotBegun ty_NotBegun sb_TooMany_NotBegun,za sb_TooMany_TooMany cl_NotKept ty_NotKept sb_TooMany_NotKept,za sb_TooMany_TooMany cl_Taken ty_Taken sb_TooMany_Taken,ym,yj cl_HallError ty_HallError sb_Doubled_HallError,yj cl_HallError ty_HallError sb_NoBooking_HallError,ym,yj cl_HallError ty_HallError sb_NoBreak_HallError,ym,yj cl_HallError ty_HallError sb_NoCounter_HallError,ym,yj cl_HallError ty_HallError sb_NoHours_HallError,ym,yj cl_HallError ty_HallError sb_NoLine_HallError,ym,yj cl_HallError ty_HallError sb_NoName_HallError,ym,yj cl_HallError ty_HallError sb_NoNumber_HallError,ym,yj cl_HallError ty_HallError sb_NoTicket_HallError,ym,yj cl_HallError ty_HallError sb_NotBegun_HallError,ym,yj cl_HallError ty_HallError sb_NotKept_HallError,ym,yj cl_HallError ty_HallError sb_Taken_HallError,ym,yj cl_HallError ty_HallError sb_TooMany_HallError,ym⟩
 have Haj:Fx l.prog w K mg base "is_whole" 1 1 zX:=⟨f0,_,_,JR T F0,mg_of X G a0,k0,bb0⟩
 have Hah:Fx l.prog w K mg base "is_number" 2 3 z6:=⟨f1,_,_,JU T F1 Haj,mg_of X G a1,k1,bb1⟩
 have Hag:Fx l.prog w K mg base "is_name" 1 1 yf:=⟨f2,_,_,VU T F2,mg_of X G a2,k2,bb2⟩
 have Hai:Fx l.prog w K mg base "is_row" 3 1 zN:=⟨f3,_,_,Wl T F3 Hah,mg_of X G a3,k3,bb3⟩
 have Ha0:Ry l.prog w K mg base C "name" "check_hours" 4 2 yA:=⟨f4,_,_,Y2 T F4 U Hai Hah,mg_of X G a4,k4,bb4⟩
 have Haf:Fx l.prog w K mg base "check_hours" 4 2 vy:=⟨f4,_,_,Q9 T F4 Hah Hai,mg_of X G a4,k4,bb4⟩
 have Hak:Fx l.prog w K mg base "kept_rows" 1 2 vC:=⟨f5,_,_,YF T F5,mg_of X G a5,k5,bb5⟩
 have Hay:Fx l.prog w K mg base "spans_of" 1 1 vA:=⟨f6,_,_,JD T F6,mg_of X G a6,k6,bb6⟩
 have Haz:RyK l.prog w K mg base C "name" (C "Hours") "Hours" 5 3 xx:=⟨f7,_,_,K7 T F7 U Ha0,⟨mk_Hours,a7,i7,kc_Hours⟩,mg_of X G tt_Hours,bb7⟩
 have Haa:Kx l.prog w K mg base (C "Hours") "Hours" 5 2 (y1 C):=⟨f7,_,_,_,Qq T F7 Hay Hak Haf,⟨mk_Hours,a7,i7,kc_Hours⟩,mg_of X G tt_Hours,bb7,λa dx xs=>VN C a dx xs⟩
 have Hae:Mx l.prog w K mg base (C "Hours") "rows" 1 1 (Kp C):=⟨f8,_,_,YA T F8,⟨a8,i8,k8⟩,bb8⟩
 have Had:Mx l.prog w K mg base (C "Hours") "rest" 1 1 (yQ C):=⟨f9,_,_,KB T F9,⟨a9,i9,k9⟩,bb9⟩
 have Hac:Mx l.prog w K mg base (C "Hours") "end" 1 1 (yG C):=⟨f10,_,_,Kq T F10,⟨a10,i10,k10⟩,bb10⟩
 have Hab:Mx l.prog w K mg base (C "Hours") "at" 1 2 (y4 C):=⟨f11,_,_,WL T F11,⟨a11,i11,k11⟩,bb11⟩
 have Ham:Fx l.prog w K mg base "_law_cell" 1 2 zy:=⟨f12,_,_,Vs T F12,mg_of X G a12,k12,bb12⟩
 have Hau:Fx l.prog w K mg base "_law_stir" 1 2 vw:=⟨f13,_,_,Wx T F13,mg_of X G a13,k13,bb13⟩
 have Hat:Fx l.prog w K mg base "_law_row" 2 4 yn:=⟨f14,_,_,WK T F14 Ham Hau,mg_of X G a14,k14,bb14⟩
 have Hap:Fx l.prog w K mg base "_law_kinds" 1 1 (y9 C):=⟨f15,_,_,KR T F15 U,mg_of X G a15,k15,bb15⟩
 have Har:Fx l.prog w K mg base "_law_own" 2 2 (zJ C):=⟨f16,_,_,V7 T F16 Hap,mg_of X G a16,k16,bb16⟩
 have Han:Fx l.prog w K mg base "_law_errors" 3 3 (xF C):=⟨f17,_,_,Qi T F17 U Har,mg_of X G a17,k17,bb17⟩
 have Hav:Fx l.prog w K mg base "_law_text" 3 1 xn:=⟨f18,_,_,KO T F18 Ham Hat,mg_of X G a18,k18,bb18⟩
 have Hao:Fx l.prog w K mg base "_law_is_name" 1 1 yL:=⟨f19,_,_,K8 T F19,mg_of X G a19,k19,bb19⟩
 have Hax:Fx l.prog w K mg base "_law_told" 1 2 yc:=⟨f20,_,_,Qh T F20,mg_of X G a20,k20,bb20⟩
 have Haw:Fx l.prog w K mg base "_law_things" 3 2 wJ:=⟨f21,_,_,QT T F21 Hax Hah Haj Hag Hao,mg_of X G a21,k21,bb21⟩
 have Haq:Fx l.prog w K mg base "_law_odd" 1 3 yu:=⟨f22,_,_,VQ T F22,mg_of X G a22,k22,bb22⟩
 have Hal:Fx l.prog w K mg base "_law_bad_row" 2 1 yK:=⟨f23,_,_,JG T F23 Haq,mg_of X G a23,k23,bb23⟩
 have Has:Fx l.prog w K mg base "_law_refused" 7 2 (yZ C):=⟨f24,_,_,Jw T F24 U Har Haz,mg_of X G a24,k24,bb24⟩
 exact Kk (YI T F25 Hab Hac Had Has Haq Ham Hal Hat Haw Han Hav Haa) (λns hl=>Wb C xnd ns hl)
theorem walk {l:PySem.W.OpenLaw}{q:Program}{loose:List Str}{XP:(Str->Option Value)->Heap->Prop}{YP:World->Heap->Prop}{d:DefRec}{K:Params->PySem.W.Frag}(hn:l.most=some 63)(hdf:d.params.defaults=[])
  (hY:∀(w:World) (h:Heap),YP w h->(K w.params).In h)
  (F:∀(w:World) (mg:Str->Option Value) (fa:Addr) (h:Heap),(K w.params).In h->h.Ns mainGlobals mg->mg d.name=some (.ref fa) ->
   ∃fd:FuncData,(∀(s:Shared) (u:Value),BindsTo s fd ⟨[u],[]⟩ [("_law_script",u)])/\∀base:Heap,(K w.params).In base->base.Ns mainGlobals mg->FnOk l.prog w (K w.params) mg base CX0 8 fa fd ["_law_script"] (spOut (K w.params))) :
  PySem.W.WalkO q loose XP YP l.row.toRowW d [] (λf vs=>PySem.call f vs) :=
 L2.walk_of (n:=63) (k:=8) (x := "_law_script") (CX:=λ_=>CX0) (sp:=λw=>spOut (K w.params)) hn (by decide) hdf ⟨rfl,by decide,by decide⟩ hY F (λ_ _ a ns hl _ hS=>⟨a,ns,rfl,hS,hl,λ_=>rfl⟩) λ_ _ _ _ _ z=>z
end My
namespace PySem.W.Fast
def tw631445527932887841:=()
def tw15230699120487301250:=()
def tw2033812715363564962:=()
def tw16172992266884829763:=()
def tw16360800578703447396:=()
def tw16443182375579570852:=()
def tw17461354354295068103:=()
def tw3693774014488894311:=()
def tw6885000007239436904:=()
def tw5276786187513843210:=()
def tw8273096764476528394:=()
def tw7083316464662011115:=()
def tw14243730848405753709:=()
def tw14480934109514267854:=()
def tw9274900968544062990:=()
def tw4718129066219642959:=()
def tw14477454293721082896:=()
def tw3869274950395692272:=()
def tw2937968404598134608:=()
def tw16850033536245723314:=()
def tw1635723862433208851:=()
def tw6090978830647712884:=()
def tw12556706317468699861:=()
def tw11373407866260705557:=()
def tw10816662301026433654:=()
def tw11808385567419997239:=()
def tw2845445794784099575:=()
def tw993579894832204920:=()
def tw8289194530134481432:=()
def tw13121636365248533336:=()
def tw3212530566938612122:=()
def tw2340585341656931707:=()
def tw4450968678904949691:=()
def tw15488207398931258588:=()
def tw11390404846222730973:=()
def tw10502969734430257021:=()
def tw3510816695371587166:=()
def tw13546600379687687102:=()
def tw18125848218307840319:=()
def tw34916533061369343:=()
def tw3360037451319235263:=()
def tw5741355915003948531:=()
def tw880020559724835419:=()
def tw11251108088051044929:=()
def tw15177917206989289976:=()
def tw3492538522034010372:=()
def tw4489779790133438094:=()
def tw13676145024719206042:=()
def tw11747302670011538475:=()
def tw8743436211459452674:=()
def tw948048180325314756:=()
def tw17150536715086435300:=()
def tw5486804093605394567:=()
def tw7015053831346373899:=()
def tw3251684828496203605:=()
def tw16742049861641649617:=()
def tw5814573552818547150:=()
def tw11146521745669944328:=()
def tw10728828375444193929:=()
def tw7246777296041979090:=()
def tw4184504771644667650:=()
def tw8936602588363463429:=()
def tw10555388797170793800:=()
def tw8518822716611911190:=()
def tw15977596269207307127:=()
def tw14216940129919877673:=()
def tw6952039593393246115:=()
def tw5437365177727394224:=()
def tw14478063162301496164:=()
def tw187124474794862839:=()
def tw14691912973528951678:=()
def tw9870067919588798214:=()
def tw7612521131788075019:=()
def tw10416718465677557362:=()
def tw1577375216863995599:=()
def tw5962619457395159345:=()
def tw8948236254677565432:=()
def tw13713800033964120321:=()
def tw11711627743840803002:=()
def tw15703513340357233658:=()
def tw14541212976897885178:=()
def tw3043631717244533672:=()
def tw3473302857726249557:=()
def tw15026029155869220613:=()
def tw4500650767011722006:=()
def tw15672479005902782043:=()
def tw10352381111309826218:=()
def tw13482712203655054416:=()
def tw7917031050933338431:=()
def tw13046832486487368044:=()
def tw8654195579092118464:=()
def tw4374315807040814163:=()
def tw16535709888107472160:=()
def tw7910281525983189133:=()
def tw6746690227466913205:=()
def tw7052257006701118805:=()
def tw5849310854509655283:=()
def tw1857962157648961594:=()
def tw1413160748281544471:=()
def tw3872986927381080021:=()
def tw18010346201329439081:=()
def tw14683359731070628019:=()
def tw6062201047686843468:=()
def tw11269335633552384336:=()
def tw7526720426934537407:=()
def tw11268773331314975821:=()
def tw15869119003268146155:=()
def tw8356074441234095117:=()
def tw9893942227966223832:=()
def tw13700502679989180897:=()
def tw5255277983327933736:=()
def tw10732579655187979860:=()
def tw7863827004472239325:=()
def tw5661005525849114485:=()
def tw15601689746556910216:=()
def tw13870441377093075839:=()
def tw2300057823972817611:=()
def tw12492056939056993127:=()
def tw7582828085691334627:=()
def tw14179407294273368822:=()
def tw17332481296492460248:=()
def tw1856275984193007178:=()
def tw2864792667145938250:=()
def tw3140352910381200666:=()
def tw10376682433993167955:=()
def tw5207095104486744767:=()
def tw4609247132558184145:=()
def tw5551733828586724531:=()
def tw286951565079895178:=()
def tw14441445545035574150:=()
def tw1384021290732039873:=()
def tw12715595096822726476:=()
def tw16296094548584422834:=()
def tw6318110483608497453:=()
def tw12012661140165131091:=()
def tw12464615664640238259:=()
def tw6261621639173969227:=()
def tw4961013510050579345:=()
def tw7167279392660081561:=()
def tw1296266335587766909:=()
def tw3928988519427582928:=()
def tw6682703250414305907:=()
def tw1943819315305669157:=()
def tw3248569927022355917:=()
def tw7653343861555220035:=()
def tw9444799197902218915:=()
def tw18037253809884451485:=()
def tw2268232653889161109:=()
def tw13816850013923710899:=()
def tw15859649508328675384:=()
def tw1374267112514580973:=()
def tw1846497195524372065:=()
def tw12636832898552517088:=()
def tw15318703622226738525:=()
def tw9876492150430576852:=()
def tw13722344925630267950:=()
def tw12110685215706263890:=()
def tw11097719816322764519:=()
def tw513233270551960051:=()
def tw13129116971778758286:=()
def tw12932281986235812175:=()
def tw9721332654599691566:=()
def tw548119632403388108:=()
def tw11081719051977779537:=()
def tw10604328155811402734:=()
def tw7232133863738682770:=()
def tw4010093575064375123:=()
def tw13962999915250043968:=()
end PySem.W.Fast
open PySem PySem.W PyProof.Rows
set_option maxRecDepth 100000 in
set_option maxHeartbeats 0 in
theorem PySem.Challenge.cw_latestturn_k03_kinds_and_refusals_holds : PySem.Challenge.rw_latestturn_k03_kinds_and_refusals.Holds := by
 w_on;o_law;k_head;(case hw=>w_witness2)
 k_fill
 refine My.walk (l:=PySem.Challenge.rw_latestturn_k03_kinds_and_refusals) rfl rfl (λw h Y=>PySem.W.kIn_of Y) ?F
 case F=>
  intro w mg fa h KX G hmg
  refine' My.all_mk KX G hmg ?tt_Hours ?tt_Doubled ?tt_Taken ?tt_NoTicket ?tt_NotBegun ?tt_NoBooking ?tt_NotKept ?tt_NoCounter ?tt_TooMany ?tt_NoName ?tt_NoNumber ?tt_NoHours ?tt_NoLine ?tt_NoBreak ?tt_HallError ?a0 ?l0 ?c0 ?k0 ?a1 ?l1 ?c1 ?k1 ?a2 ?l2 ?c2 ?k2 ?a3 ?l3 ?c3 ?k3 ?a4 ?l4 ?c4 ?k4 ?a5 ?l5 ?c5 ?k5 ?a6 ?l6 ?c6 ?k6 ?a7 ?i7 ?l7 ?c7 ?k7 ?a8 ?i8 ?l8 ?c8 ?k8 ?a9 ?i9 ?l9 ?c9 ?k9 ?a10 ?i10 ?l10 ?c10 ?k10 ?a11 ?i11 ?l11 ?c11 ?k11 ?a12 ?l12 ?c12 ?k12 ?a13 ?l13 ?c13 ?k13 ?a14 ?l14 ?c14 ?k14 ?a15 ?l15 ?c15 ?k15 ?a16 ?l16 ?c16 ?k16 ?a17 ?l17 ?c17 ?k17 ?a18 ?l18 ?c18 ?k18 ?a19 ?l19 ?c19 ?k19 ?a20 ?l20 ?c20 ?k20 ?a21 ?l21 ?c21 ?k21 ?a22 ?l22 ?c22 ?k22 ?a23 ?l23 ?c23 ?k23 ?a24 ?l24 ?c24 ?k24 ?a25 ?l25 ?c25 ?k25 ?pg_Hours ?hd_Hours ?po_Hours ?sa_Hours ?mk_Hours ?kc_Hours ?xnd ?xl_Doubled ?xmr_Doubled ?xdl_Doubled ?xtl_Doubled ?xok_Doubled ?xin_Doubled ?xkp_Doubled ?xli_Doubled ?xci_Doubled ?xki_Doubled ?sa_Doubled ?xtk_Doubled ?xhd_Doubled ?be_Doubled ?sb_Doubled_HallError ?ga_Doubled ?gt_Doubled ?na_Doubled ?xrd ?xfc ?xsp ?xl_NoBooking ?xmr_NoBooking ?xdl_NoBooking ?xtl_NoBooking ?xok_NoBooking ?xin_NoBooking ?xkp_NoBooking ?xli_NoBooking ?xci_NoBooking ?xki_NoBooking ?sa_NoBooking ?xtk_NoBooking ?xhd_NoBooking ?be_NoBooking ?sb_NoBooking_HallError ?ga_NoBooking ?gt_NoBooking ?na_NoBooking ?xl_NoCounter ?xmr_NoCounter ?xdl_NoCounter ?xtl_NoCounter ?xok_NoCounter ?xin_NoCounter ?xkp_NoCounter ?xli_NoCounter ?xci_NoCounter ?xki_NoCounter ?sa_NoCounter ?xtk_NoCounter ?xhd_NoCounter ?be_NoCounter ?sb_NoCounter_HallError ?ga_NoCounter ?gt_NoCounter ?na_NoCounter ?xl_NoTicket ?xmr_NoTicket ?xdl_NoTicket ?xtl_NoTicket ?xok_NoTicket ?xin_NoTicket ?xkp_NoTicket ?xli_NoTicket ?xci_NoTicket ?xki_NoTicket ?sa_NoTicket ?xtk_NoTicket ?xhd_NoTicket ?be_NoTicket ?sb_NoTicket_HallError ?ga_NoTicket ?gt_NoTicket ?na_NoTicket ?xl_NotBegun ?xmr_NotBegun ?xdl_NotBegun ?xtl_NotBegun ?xok_NotBegun ?xin_NotBegun ?xkp_NotBegun ?xli_NotBegun ?xci_NotBegun ?xki_NotBegun ?sa_NotBegun ?xtk_NotBegun ?xhd_NotBegun ?be_NotBegun ?sb_NotBegun_HallError ?ga_NotBegun ?gt_NotBegun ?na_NotBegun ?xl_NotKept ?xmr_NotKept ?xdl_NotKept ?xtl_NotKept ?xok_NotKept ?xin_NotKept ?xkp_NotKept ?xli_NotKept ?xci_NotKept ?xki_NotKept ?sa_NotKept ?xtk_NotKept ?xhd_NotKept ?be_NotKept ?sb_NotKept_HallError ?ga_NotKept ?gt_NotKept ?na_NotKept ?xl_Taken ?xmr_Taken ?xdl_Taken ?xtl_Taken ?xok_Taken ?xin_Taken ?xkp_Taken ?xli_Taken ?xci_Taken ?xki_Taken ?sa_Taken ?xtk_Taken ?xhd_Taken ?be_Taken ?sb_Taken_HallError ?ga_Taken ?gt_Taken ?na_Taken ?cl_Doubled ?cc_Doubled ?xcg ?xct ?mo_Doubled ?cl_NoBooking ?cc_NoBooking ?mo_NoBooking ?be_NoBreak ?cl_NoBreak ?ga_NoBreak ?gt_NoBreak ?cc_NoBreak ?mo_NoBreak ?cl_NoCounter ?cc_NoCounter ?mo_NoCounter ?be_NoHours ?cl_NoHours ?ga_NoHours ?gt_NoHours ?cc_NoHours ?mo_NoHours ?be_NoLine ?cl_NoLine ?ga_NoLine ?gt_NoLine ?cc_NoLine ?mo_NoLine ?be_NoName ?cl_NoName ?ga_NoName ?gt_NoName ?cc_NoName ?mo_NoName ?be_NoNumber ?cl_NoNumber ?ga_NoNumber ?gt_NoNumber ?cc_NoNumber ?mo_NoNumber ?cl_NoTicket ?cc_NoTicket ?mo_NoTicket ?cl_NotBegun ?cc_NotBegun ?mo_NotBegun ?cl_NotKept ?cc_NotKept ?mo_NotKept ?cl_Taken ?cc_Taken ?mo_Taken ?be_TooMany ?cl_TooMany ?ga_TooMany ?gt_TooMany ?cc_TooMany ?mo_TooMany ?xl_NoBreak ?xmr_NoBreak ?xdl_NoBreak ?xtl_NoBreak ?xok_NoBreak ?xin_NoBreak ?xkp_NoBreak ?xli_NoBreak ?xci_NoBreak ?xki_NoBreak ?sa_NoBreak ?xtk_NoBreak ?xhd_NoBreak ?sb_NoBreak_HallError ?na_NoBreak ?xtk2_NoBreak ?nb_NoBreak ?su_Doubled_ValueError ?su_NoBooking_ValueError ?su_NoBreak_ValueError ?su_NoCounter_ValueError ?su_NoHours_ValueError ?su_NoLine_ValueError ?su_NoName_ValueError ?su_NoNumber_ValueError ?su_NoTicket_ValueError ?su_NotBegun_ValueError ?su_NotKept_ValueError ?su_Taken_ValueError ?su_TooMany_ValueError ?xl_NoHours ?xmr_NoHours ?xdl_NoHours ?xtl_NoHours ?xok_NoHours ?xin_NoHours ?xkp_NoHours ?xl_NoLine ?xmr_NoLine ?xdl_NoLine ?xtl_NoLine ?xok_NoLine ?xin_NoLine ?xkp_NoLine ?xl_NoName ?xmr_NoName ?xdl_NoName ?xtl_NoName ?xok_NoName ?xin_NoName ?xkp_NoName ?xl_NoNumber ?xmr_NoNumber ?xdl_NoNumber ?xtl_NoNumber ?xok_NoNumber ?xin_NoNumber ?xkp_NoNumber ?xl_TooMany ?xmr_TooMany ?xdl_TooMany ?xtl_TooMany ?xok_TooMany ?xin_TooMany ?xkp_TooMany ?sb_NoHours_HallError ?nt_HallError ?cl_HallError ?be_HallError ?sb_Doubled_Doubled ?ty_NoBooking ?sb_Doubled_NoBooking ?ty_NoBreak ?sb_Doubled_NoBreak ?ty_NoCounter ?sb_Doubled_NoCounter ?ty_NoHours ?sb_Doubled_NoHours ?ty_NoLine ?sb_Doubled_NoLine ?ty_NoName ?sb_Doubled_NoName ?ty_NoNumber ?sb_Doubled_NoNumber ?ty_NoTicket ?sb_Doubled_NoTicket ?ty_NotBegun ?sb_Doubled_NotBegun ?ty_NotKept ?sb_Doubled_NotKept ?ty_Taken ?sb_Doubled_Taken ?ty_TooMany ?sb_Doubled_TooMany ?sb_NoBooking_NoBooking ?ty_Doubled ?sb_NoBooking_Doubled ?sb_NoBooking_NoBreak ?sb_NoBooking_NoCounter ?sb_NoBooking_NoHours ?sb_NoBooking_NoLine ?sb_NoBooking_NoName ?sb_NoBooking_NoNumber ?sb_NoBooking_NoTicket ?sb_NoBooking_NotBegun ?sb_NoBooking_NotKept ?sb_NoBooking_Taken ?sb_NoBooking_TooMany ?sb_NoBreak_NoBreak ?sb_NoBreak_Doubled ?sb_NoBreak_NoBooking ?sb_NoBreak_NoCounter ?sb_NoBreak_NoHours ?sb_NoBreak_NoLine ?sb_NoBreak_NoName ?sb_NoBreak_NoNumber ?sb_NoBreak_NoTicket ?sb_NoBreak_NotBegun ?sb_NoBreak_NotKept ?sb_NoBreak_Taken ?sb_NoBreak_TooMany ?sb_NoCounter_NoCounter ?sb_NoCounter_Doubled ?sb_NoCounter_NoBooking ?sb_NoCounter_NoBreak ?sb_NoCounter_NoHours ?sb_NoCounter_NoLine ?sb_NoCounter_NoName ?sb_NoCounter_NoNumber ?sb_NoCounter_NoTicket ?sb_NoCounter_NotBegun ?sb_NoCounter_NotKept ?sb_NoCounter_Taken ?sb_NoCounter_TooMany ?sb_NoHours_NoHours ?sb_NoHours_Doubled ?sb_NoHours_NoBooking ?sb_NoHours_NoBreak ?sb_NoHours_NoCounter ?sb_NoHours_NoLine ?sb_NoHours_NoName ?sb_NoHours_NoNumber ?sb_NoHours_NoTicket ?sb_NoHours_NotBegun ?sb_NoHours_NotKept ?sb_NoHours_Taken ?sb_NoHours_TooMany ?sb_NoLine_NoLine ?sb_NoLine_Doubled ?sb_NoLine_NoBooking ?sb_NoLine_NoBreak ?sb_NoLine_NoCounter ?sb_NoLine_NoHours ?sb_NoLine_NoName ?sb_NoLine_NoNumber ?sb_NoLine_NoTicket ?sb_NoLine_NotBegun ?sb_NoLine_NotKept ?sb_NoLine_Taken ?sb_NoLine_TooMany ?sb_NoName_NoName ?sb_NoName_Doubled ?sb_NoName_NoBooking ?sb_NoName_NoBreak ?sb_NoName_NoCounter ?sb_NoName_NoHours ?sb_NoName_NoLine ?sb_NoName_NoNumber ?sb_NoName_NoTicket ?sb_NoName_NotBegun ?sb_NoName_NotKept ?sb_NoName_Taken ?sb_NoName_TooMany ?sb_NoNumber_NoNumber ?sb_NoNumber_Doubled ?sb_NoNumber_NoBooking ?sb_NoNumber_NoBreak ?sb_NoNumber_NoCounter ?sb_NoNumber_NoHours ?sb_NoNumber_NoLine ?sb_NoNumber_NoName ?sb_NoNumber_NoTicket ?sb_NoNumber_NotBegun ?sb_NoNumber_NotKept ?sb_NoNumber_Taken ?sb_NoNumber_TooMany ?sb_NoTicket_NoTicket ?sb_NoTicket_Doubled ?sb_NoTicket_NoBooking ?sb_NoTicket_NoBreak ?sb_NoTicket_NoCounter ?sb_NoTicket_NoHours ?sb_NoTicket_NoLine ?sb_NoTicket_NoName ?sb_NoTicket_NoNumber ?sb_NoTicket_NotBegun ?sb_NoTicket_NotKept ?sb_NoTicket_Taken ?sb_NoTicket_TooMany ?sb_NotBegun_NotBegun ?sb_NotBegun_Doubled ?sb_NotBegun_NoBooking ?sb_NotBegun_NoBreak ?sb_NotBegun_NoCounter ?sb_NotBegun_NoHours ?sb_NotBegun_NoLine ?sb_NotBegun_NoName ?sb_NotBegun_NoNumber ?sb_NotBegun_NoTicket ?sb_NotBegun_NotKept ?sb_NotBegun_Taken ?sb_NotBegun_TooMany ?sb_NotKept_NotKept ?sb_NotKept_Doubled ?sb_NotKept_NoBooking ?sb_NotKept_NoBreak ?sb_NotKept_NoCounter ?sb_NotKept_NoHours ?sb_NotKept_NoLine ?sb_NotKept_NoName ?sb_NotKept_NoNumber ?sb_NotKept_NoTicket ?sb_NotKept_NotBegun ?sb_NotKept_Taken ?sb_NotKept_TooMany ?sb_Taken_Taken ?sb_Taken_Doubled ?sb_Taken_NoBooking ?sb_Taken_NoBreak ?sb_Taken_NoCounter ?sb_Taken_NoHours ?sb_Taken_NoLine ?sb_Taken_NoName ?sb_Taken_NoNumber ?sb_Taken_NoTicket ?sb_Taken_NotBegun ?sb_Taken_NotKept ?sb_Taken_TooMany ?sb_TooMany_TooMany ?sb_TooMany_Doubled ?sb_TooMany_NoBooking ?sb_TooMany_NoBreak ?sb_TooMany_NoCounter ?sb_TooMany_NoHours ?sb_TooMany_NoLine ?sb_TooMany_NoName ?sb_TooMany_NoNumber ?sb_TooMany_NoTicket ?sb_TooMany_NotBegun ?sb_TooMany_NotKept ?sb_TooMany_Taken ?ty_HallError ?sb_NoLine_HallError ?sb_NoName_HallError ?sb_NoNumber_HallError ?sb_TooMany_HallError ?n_Hours_kept_rest ?n_Hours_spans ?b_ValueError ?b_all ?b_bool ?b_enumerate ?b_int ?b_isinstance ?b_len ?b_list ?b_range ?b_str ?b_tuple ?c_FIGURES ?c_LETTERS ?c_MOST_COUNTERS ?c_MOST_ROWS ?c_MOST_SIGNS ?c_MOST_TURNS
  (case tt_Hours | tt_Doubled | tt_Taken | tt_NoTicket | tt_NotBegun | tt_NoBooking | tt_NotKept | tt_NoCounter | tt_TooMany | tt_NoName | tt_NoNumber | tt_NoHours | tt_NoLine | tt_NoBreak | tt_HallError | a0 | l0 | c0 | k0 | a1 | l1 | c1 | k1 | a2 | l2 | c2 | k2 | a3 | l3 | c3 | k3 | a4 | l4 | c4 | k4 | a5 | l5 | c5 | k5 | a6 | l6 | c6 | k6 | a7 | i7 | l7 | c7 | k7 | a8 | i8 | l8 | c8 | k8 | a9 | i9 | l9 | c9 | k9 | a10 | i10 | l10 | c10 | k10 | a11 | i11 | l11 | c11 | k11 | a12 | l12 | c12 | k12 | a13 | l13 | c13 | k13 | a14 | l14 | c14 | k14 | a15 | l15 | c15 | k15 | a16 | l16 | c16 | k16 | a17 | l17 | c17 | k17 | a18 | l18 | c18 | k18 | a19 | l19 | c19 | k19 | a20 | l20 | c20 | k20 | a21 | l21 | c21 | k21 | a22 | l22 | c22 | k22 | a23 | l23 | c23 | k23 | a24 | l24 | c24 | k24 | a25 | l25 | c25 | k25 | pg_Hours | hd_Hours | po_Hours | sa_Hours | mk_Hours | kc_Hours=>k_is)
  (case xnd=>decide)
  (case xl_Doubled=>k_is)
  (case xmr_Doubled | xdl_Doubled=>rfl)
  (case xtl_Doubled | xok_Doubled=>kernel_rfl)
  (case xin_Doubled | xkp_Doubled | xli_Doubled | xci_Doubled | xki_Doubled | sa_Doubled | xtk_Doubled | xhd_Doubled | be_Doubled | sb_Doubled_HallError | ga_Doubled | gt_Doubled | na_Doubled | xrd | xfc | xsp | xl_NoBooking=>k_is)
  (case xmr_NoBooking | xdl_NoBooking=>rfl)
  (case xtl_NoBooking | xok_NoBooking=>kernel_rfl)
  (case xin_NoBooking | xkp_NoBooking | xli_NoBooking | xci_NoBooking | xki_NoBooking | sa_NoBooking | xtk_NoBooking | xhd_NoBooking | be_NoBooking | sb_NoBooking_HallError | ga_NoBooking | gt_NoBooking | na_NoBooking | xl_NoCounter=>k_is)
  (case xmr_NoCounter | xdl_NoCounter=>rfl)
  (case xtl_NoCounter | xok_NoCounter=>kernel_rfl)
  (case xin_NoCounter | xkp_NoCounter | xli_NoCounter | xci_NoCounter | xki_NoCounter | sa_NoCounter | xtk_NoCounter | xhd_NoCounter | be_NoCounter | sb_NoCounter_HallError | ga_NoCounter | gt_NoCounter | na_NoCounter | xl_NoTicket=>k_is)
  (case xmr_NoTicket | xdl_NoTicket=>rfl)
  (case xtl_NoTicket | xok_NoTicket=>kernel_rfl)
  (case xin_NoTicket | xkp_NoTicket | xli_NoTicket | xci_NoTicket | xki_NoTicket | sa_NoTicket | xtk_NoTicket | xhd_NoTicket | be_NoTicket | sb_NoTicket_HallError | ga_NoTicket | gt_NoTicket | na_NoTicket | xl_NotBegun=>k_is)
  (case xmr_NotBegun | xdl_NotBegun=>rfl)
  (case xtl_NotBegun | xok_NotBegun=>kernel_rfl)
  (case xin_NotBegun | xkp_NotBegun | xli_NotBegun | xci_NotBegun | xki_NotBegun | sa_NotBegun | xtk_NotBegun | xhd_NotBegun | be_NotBegun | sb_NotBegun_HallError | ga_NotBegun | gt_NotBegun | na_NotBegun | xl_NotKept=>k_is)
  (case xmr_NotKept | xdl_NotKept=>rfl)
  (case xtl_NotKept | xok_NotKept=>kernel_rfl)
  (case xin_NotKept | xkp_NotKept | xli_NotKept | xci_NotKept | xki_NotKept | sa_NotKept | xtk_NotKept | xhd_NotKept | be_NotKept | sb_NotKept_HallError | ga_NotKept | gt_NotKept | na_NotKept | xl_Taken=>k_is)
  (case xmr_Taken | xdl_Taken=>rfl)
  (case xtl_Taken | xok_Taken=>kernel_rfl)
  (case xin_Taken | xkp_Taken | xli_Taken | xci_Taken | xki_Taken | sa_Taken | xtk_Taken | xhd_Taken | be_Taken | sb_Taken_HallError | ga_Taken | gt_Taken | na_Taken | cl_Doubled | cc_Doubled | xcg | xct | mo_Doubled | cl_NoBooking | cc_NoBooking | mo_NoBooking | be_NoBreak | cl_NoBreak | ga_NoBreak | gt_NoBreak | cc_NoBreak | mo_NoBreak | cl_NoCounter | cc_NoCounter | mo_NoCounter | be_NoHours | cl_NoHours | ga_NoHours | gt_NoHours | cc_NoHours | mo_NoHours | be_NoLine | cl_NoLine | ga_NoLine | gt_NoLine | cc_NoLine | mo_NoLine | be_NoName | cl_NoName | ga_NoName | gt_NoName | cc_NoName | mo_NoName | be_NoNumber | cl_NoNumber | ga_NoNumber | gt_NoNumber | cc_NoNumber | mo_NoNumber | cl_NoTicket | cc_NoTicket | mo_NoTicket | cl_NotBegun | cc_NotBegun | mo_NotBegun | cl_NotKept | cc_NotKept | mo_NotKept | cl_Taken | cc_Taken | mo_Taken | be_TooMany | cl_TooMany | ga_TooMany | gt_TooMany | cc_TooMany | mo_TooMany | xl_NoBreak=>k_is)
  (case xmr_NoBreak | xdl_NoBreak=>rfl)
  (case xtl_NoBreak | xok_NoBreak=>kernel_rfl)
  (case xin_NoBreak | xkp_NoBreak | xli_NoBreak | xci_NoBreak | xki_NoBreak | sa_NoBreak | xtk_NoBreak | xhd_NoBreak | sb_NoBreak_HallError | na_NoBreak | xtk2_NoBreak | nb_NoBreak | su_Doubled_ValueError | su_NoBooking_ValueError | su_NoBreak_ValueError | su_NoCounter_ValueError | su_NoHours_ValueError | su_NoLine_ValueError | su_NoName_ValueError | su_NoNumber_ValueError | su_NoTicket_ValueError | su_NotBegun_ValueError | su_NotKept_ValueError | su_Taken_ValueError | su_TooMany_ValueError | xl_NoHours=>k_is)
  (case xmr_NoHours | xdl_NoHours=>rfl)
  (case xtl_NoHours | xok_NoHours=>kernel_rfl)
  (case xin_NoHours | xkp_NoHours | xl_NoLine=>k_is)
  (case xmr_NoLine | xdl_NoLine=>rfl)
  (case xtl_NoLine | xok_NoLine=>kernel_rfl)
  (case xin_NoLine | xkp_NoLine | xl_NoName=>k_is)
  (case xmr_NoName | xdl_NoName=>rfl)
  (case xtl_NoName | xok_NoName=>kernel_rfl)
  (case xin_NoName | xkp_NoName | xl_NoNumber=>k_is)
  (case xmr_NoNumber | xdl_NoNumber=>rfl)
  (case xtl_NoNumber | xok_NoNumber=>kernel_rfl)
  (case xin_NoNumber | xkp_NoNumber | xl_TooMany=>k_is)
  (case xmr_TooMany | xdl_TooMany=>rfl)
  (case xtl_TooMany | xok_TooMany=>kernel_rfl)
  (case xin_TooMany | xkp_TooMany | sb_NoHours_HallError | nt_HallError | cl_HallError | be_HallError | sb_Doubled_Doubled | ty_NoBooking | sb_Doubled_NoBooking | ty_NoBreak | sb_Doubled_NoBreak | ty_NoCounter | sb_Doubled_NoCounter | ty_NoHours | sb_Doubled_NoHours | ty_NoLine | sb_Doubled_NoLine | ty_NoName | sb_Doubled_NoName | ty_NoNumber | sb_Doubled_NoNumber | ty_NoTicket | sb_Doubled_NoTicket | ty_NotBegun | sb_Doubled_NotBegun | ty_NotKept | sb_Doubled_NotKept | ty_Taken | sb_Doubled_Taken | ty_TooMany | sb_Doubled_TooMany | sb_NoBooking_NoBooking | ty_Doubled | sb_NoBooking_Doubled | sb_NoBooking_NoBreak | sb_NoBooking_NoCounter | sb_NoBooking_NoHours | sb_NoBooking_NoLine | sb_NoBooking_NoName | sb_NoBooking_NoNumber | sb_NoBooking_NoTicket | sb_NoBooking_NotBegun | sb_NoBooking_NotKept | sb_NoBooking_Taken | sb_NoBooking_TooMany | sb_NoBreak_NoBreak | sb_NoBreak_Doubled | sb_NoBreak_NoBooking | sb_NoBreak_NoCounter | sb_NoBreak_NoHours | sb_NoBreak_NoLine | sb_NoBreak_NoName | sb_NoBreak_NoNumber | sb_NoBreak_NoTicket | sb_NoBreak_NotBegun | sb_NoBreak_NotKept | sb_NoBreak_Taken | sb_NoBreak_TooMany | sb_NoCounter_NoCounter | sb_NoCounter_Doubled | sb_NoCounter_NoBooking | sb_NoCounter_NoBreak | sb_NoCounter_NoHours | sb_NoCounter_NoLine | sb_NoCounter_NoName | sb_NoCounter_NoNumber | sb_NoCounter_NoTicket | sb_NoCounter_NotBegun | sb_NoCounter_NotKept | sb_NoCounter_Taken | sb_NoCounter_TooMany | sb_NoHours_NoHours | sb_NoHours_Doubled | sb_NoHours_NoBooking | sb_NoHours_NoBreak | sb_NoHours_NoCounter | sb_NoHours_NoLine | sb_NoHours_NoName | sb_NoHours_NoNumber | sb_NoHours_NoTicket | sb_NoHours_NotBegun | sb_NoHours_NotKept | sb_NoHours_Taken | sb_NoHours_TooMany | sb_NoLine_NoLine | sb_NoLine_Doubled | sb_NoLine_NoBooking | sb_NoLine_NoBreak | sb_NoLine_NoCounter | sb_NoLine_NoHours | sb_NoLine_NoName | sb_NoLine_NoNumber | sb_NoLine_NoTicket | sb_NoLine_NotBegun | sb_NoLine_NotKept | sb_NoLine_Taken | sb_NoLine_TooMany | sb_NoName_NoName | sb_NoName_Doubled | sb_NoName_NoBooking | sb_NoName_NoBreak | sb_NoName_NoCounter | sb_NoName_NoHours | sb_NoName_NoLine | sb_NoName_NoNumber | sb_NoName_NoTicket | sb_NoName_NotBegun | sb_NoName_NotKept | sb_NoName_Taken | sb_NoName_TooMany | sb_NoNumber_NoNumber | sb_NoNumber_Doubled | sb_NoNumber_NoBooking | sb_NoNumber_NoBreak | sb_NoNumber_NoCounter | sb_NoNumber_NoHours | sb_NoNumber_NoLine | sb_NoNumber_NoName | sb_NoNumber_NoTicket | sb_NoNumber_NotBegun | sb_NoNumber_NotKept | sb_NoNumber_Taken | sb_NoNumber_TooMany | sb_NoTicket_NoTicket | sb_NoTicket_Doubled | sb_NoTicket_NoBooking | sb_NoTicket_NoBreak | sb_NoTicket_NoCounter | sb_NoTicket_NoHours | sb_NoTicket_NoLine | sb_NoTicket_NoName | sb_NoTicket_NoNumber | sb_NoTicket_NotBegun | sb_NoTicket_NotKept | sb_NoTicket_Taken | sb_NoTicket_TooMany | sb_NotBegun_NotBegun | sb_NotBegun_Doubled | sb_NotBegun_NoBooking | sb_NotBegun_NoBreak | sb_NotBegun_NoCounter | sb_NotBegun_NoHours | sb_NotBegun_NoLine | sb_NotBegun_NoName | sb_NotBegun_NoNumber | sb_NotBegun_NoTicket | sb_NotBegun_NotKept | sb_NotBegun_Taken | sb_NotBegun_TooMany | sb_NotKept_NotKept | sb_NotKept_Doubled | sb_NotKept_NoBooking | sb_NotKept_NoBreak | sb_NotKept_NoCounter | sb_NotKept_NoHours | sb_NotKept_NoLine | sb_NotKept_NoName | sb_NotKept_NoNumber | sb_NotKept_NoTicket | sb_NotKept_NotBegun | sb_NotKept_Taken | sb_NotKept_TooMany | sb_Taken_Taken | sb_Taken_Doubled | sb_Taken_NoBooking | sb_Taken_NoBreak | sb_Taken_NoCounter | sb_Taken_NoHours | sb_Taken_NoLine | sb_Taken_NoName | sb_Taken_NoNumber | sb_Taken_NoTicket | sb_Taken_NotBegun | sb_Taken_NotKept | sb_Taken_TooMany | sb_TooMany_TooMany | sb_TooMany_Doubled | sb_TooMany_NoBooking | sb_TooMany_NoBreak | sb_TooMany_NoCounter | sb_TooMany_NoHours | sb_TooMany_NoLine | sb_TooMany_NoName | sb_TooMany_NoNumber | sb_TooMany_NoTicket | sb_TooMany_NotBegun | sb_TooMany_NotKept | sb_TooMany_Taken | ty_HallError | sb_NoLine_HallError | sb_NoName_HallError | sb_NoNumber_HallError | sb_TooMany_HallError | n_Hours_kept_rest | n_Hours_spans | b_ValueError | b_all | b_bool | b_enumerate | b_int | b_isinstance | b_len | b_list | b_range | b_str | b_tuple | c_FIGURES | c_LETTERS | c_MOST_COUNTERS | c_MOST_ROWS | c_MOST_SIGNS | c_MOST_TURNS=>k_is)
#print axioms PySem.Challenge.cw_latestturn_k03_kinds_and_refusals_holds
end

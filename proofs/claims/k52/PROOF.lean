import PyProof.Rows.All
import Wide.All
import OpenK.AllK
import Wide.FinOn
import Lean
import PyProof.EqAt
import PyProof.EqKinds
import PyProof.TupleCall
import KE.KPairComp
import PyProof.SumWalkG
import PyProof.WalkInts
import PyProof.Rows.SortStr
import PyProof.Rows.SortWalk
import PyProof.NeKinds
import KE.KIntText
import PyProof.Rows.FStr
import PyProof.Rows.StrNews2
import PyProof.CallStr
import PyProof.StrLawsChain
import PySem.Challenge.RW_latestturn_k52_bookings
set_option Elab.async false
set_option linter.all false
set_option maxRecDepth 100000
set_option maxHeartbeats 4000000
noncomputable section
open PySem.W (mg_of nsIn keepIn fnOf codeIn findIn kitOne subIn hasDictIn clsIn takerIn instObj Looks emptyDict plainGet looks_findIn InstAt)
set_option maxHeartbeats 4000000
set_option hygiene false
local macro_rules
| `(#[$n:num])=>match n.getNat with
|0=>`((by rfl))
|1=>`((by omega))
|2=>`(locl #[0])
|3=>`(List D)
|4=>`(hr.mono (by decide))
|5=>`(C "Hours")
|6=>`(q.map tkD)
|7=>`((by decide))
|8=>`(Option Value)
|9=>`(model X.prog X.w)
|10=>`(⟨rfl,rfl,rfl,by decide +kernel,rfl,by decide +kernel,by decide +kernel⟩)
|11=>`(.Name x p)
|12=>`(C "NoRoom")
|13=>`((by decide +kernel))
|14=>`((by intro _ _;rfl))
|15=>`(gc (.int 1))
|16=>`(C "Granted")
|17=>`(Int×List Str)
|18=>`((by simp;omega))
|19=>`(model prog w)
|20=>`(x==("__debug__" : Str))
|21=>`(List.replicate own.length none++capE ρ cap)
|22=>`(List Str×List D)
|23=>`(cxc X scope C (own++cap.map (·.1)) s₂ H2 fp (X.pn++pins))
|24=>`(backTo pos (starEach es X.env))
|25=>`(hoursD #[5] rest ks)
|26=>`(.Call (.Name x p) (e::es) [] pos)
|27=>`(cxc X scope C (own++cap.map (·.1)) s₀ H₀ fp pn)
|28=>`(.ListComp elt [⟨tg,iter,ifs,0⟩] scope pos)
|29=>`(some (.val (.int (6+(k:Int)))))
|30=>`(k==NameKind.free&&env.scope.kind==.function&&env.kindOf n==some .cell)
|31=>`(zb (zl (y2 (v:=.int 100000) #[0] t_GREATEST_TURN (by exact⟨_,rfl⟩) (by intro _;rfl))) zj)
|32=>`(gCall (len? 4 (yg C)) frzO (nCons (gVal (gFld (C "Granted") "queue" (gv 0))) (nCons (gVal (gFld (C "Granted") "hours" (gv 0))) (nCons (gVal (gFld (C "Granted") "begin" (gv 0))) (nCons (gn 1) nNil)))))
|33=>`(zz Hbq #[4] #[0] (zb (zl (z5 T.cl_Granted T.n_Granted_queue (zh 0))) (zb (zl (z5 T.cl_Granted T.n_Granted_hours (zh 0))) (zb (zl (z5 T.cl_Granted T.n_Granted_begin (zh 0))) (zb (ze 1) zj)))))
|34=>`(gCall (len? 4 (yg C)) frzO (nCons (gVal (gFld (C "Late") "queue" (gv 0))) (nCons (gVal (gFld (C "Late") "hours" (gv 0))) (nCons (gVal (gFld (C "Late") "begin" (gv 0))) (nCons (gn 1) nNil)))))
|35=>`(zz Hbq #[4] #[0] (zb (zl (z5 T.cl_Late T.n_Late_queue (zh 0))) (zb (zl (z5 T.cl_Late T.n_Late_hours (zh 0))) (zb (zl (z5 T.cl_Late T.n_Late_begin (zh 0))) (zb (ze 1) zj)))))
|36=>`(sSeq (sSet 14 (gCall (len? 5 xk) frzO (nCons (gn 1) (nCons (gn 5) (nCons (gn 4) (nCons (gn 7) (nCons (gn 9) nNil))))))) (sSeq (sIf (gOr (gb' (g2 (fEq true) (gr 12) (gc (.str "good")))) (gOr (gb' (g2 (fEq true) (yAlt (gMeth (C "Granted") "told" (len? 1 (y6 C)) frzO (gv 13) nNil) (yAlt (gMeth (C "Late") "told" (len? 1 (yw C)) frzO (gv 13) nNil) (gMeth (C "NoRoom") "told" (len? 1 (yA C)) frzO (gv 13) nNil))) (gr 14))) (gNot (gt (gCall (len? 2 wW) frzO (nCons (gVal (yAlt (gMeth (C "Granted") "granted" (len? 1 (y3 C)) frzO (gv 13) nNil) (yAlt (gMeth (C "Late") "granted" (len? 1 (y7 C)) frzO (gv 13) nNil) (gMeth (C "NoRoom") "granted" (len? 1 (yF C)) frzO (gv 13) nNil)))) (nCons (gVal (g2 (fEq false) (g2 fItem (gr 14) (gc (.int 0))) (gc (.str "granted")))) nNil))))))) (sRet (gc (.bl false))) sNext) (sIf (gOr (gb' (g2 (fIsB true) (yAlt (gMeth (C "Granted") "holds" (len? 2 (yN C)) frzO (gv 13) (nCons (gn 7) nNil)) (yAlt (gMeth (C "Late") "holds" (len? 2 (yG C)) frzO (gv 13) (nCons (gn 7) nNil)) (gMeth (C "NoRoom") "holds" (len? 2 (xf C)) frzO (gv 13) (nCons (gn 7) nNil)))) (gc (.bl true)))) (gNot (gt (gCall (len? 4 (xR C)) frzO (nCons (gn 13) (nCons (gn 5) (nCons (gn 9) (nCons (gn 14) nNil)))))))) (sRet (gc (.bl false))) sNext)))
|_=>Lean.Macro.throwUnsupported
set_option hygiene true
namespace L2
open PySem PySem.Spec PyProof.Rows
abbrev Key:=Sum Int Str
def keyIs:Key->Value->Bool
 |.inl k,v=>Value.isInt k v
 |.inr x,v=>Value.isStrOf x v
def keyH (w:World):Key->Int
 |.inl k=>hashInt k
 |.inr x=>hashStr w x
theorem xa:∀ {k:Key} {v:Value},keyIs k v=true->(∃i t,k=Sum.inl i/\v=Value.int i t)∨(∃x t,k=Sum.inr x/\v=Value.str x t)
 |.inl i,v,h=>by
  obtain⟨t,e⟩:=Value.isInt_shape (k:=i) (v:=v) h
  exact .inl ⟨i,t,rfl,e⟩
 |.inr x,v,h=>by
  obtain⟨t,e⟩:=Value.isStrOf_shape (x:=x) (v:=v) h
  exact .inr ⟨x,t,rfl,e⟩
theorem Rj (i:Int)(t:Tok):keyIs (.inl i) (.int i t)=true:=by simp[keyIs,Value.isInt]
theorem R0 (x:Str)(t:Tok):keyIs (.inr x) (.str x t)=true:=by simp[keyIs,Value.isStrOf]
theorem GN (a b:Int):decide ((Sum.inl a:Key)=Sum.inl b)=(a==b):=by
 by_cases e:a=b
 ·subst e;simp
 ·have h:¬(Sum.inl a:Key)=Sum.inl b:=λq=>e (Sum.inl.inj q)
  rw[decide_eq_false h]
  exact (beq_eq_false_iff_ne.mpr e).symm
theorem Gx (a b:Str):decide ((Sum.inr a:Key)=Sum.inr b)=decide (a=b):=by
 by_cases e:a=b
 ·subst e;simp
 ·have h:¬(Sum.inr a:Key)=Sum.inr b:=λq=>e (Sum.inr.inj q)
  rw[decide_eq_false h,decide_eq_false e]
theorem Uk (a:Int)(b:Str):decide ((Sum.inl a:Key)=Sum.inr b)=false:=decide_eq_false (λq=>nomatch q)
theorem GL (a:Str)(b:Int):decide ((Sum.inr a:Key)=Sum.inl b)=false:=decide_eq_false (λq=>nomatch q)
def zP (prog:Program)(w:World):PySem.KeyKind prog w Key where
 is:=keyIs
 hash:=keyH w
 inj:=λv a b ha hb=>by
  rcases xa ha with⟨i,t,rfl,rfl⟩ | ⟨x,t,rfl,rfl⟩
  ·rcases xa hb with⟨j,u,rfl,e⟩ | ⟨y,u,rfl,e⟩
   ·injection e with e1 _;rw[e1]
   ·exact nomatch e
  ·rcases xa hb with⟨j,u,rfl,e⟩ | ⟨y,u,rfl,e⟩
   ·exact nomatch e
   ·injection e with e1 _;rw[e1]
 byValue:=λk v h=>by
  rcases xa h with⟨i,t,rfl,rfl⟩ | ⟨x,t,rfl,rfl⟩<;>rfl
 pyHash:=λhv h=>by
  rcases xa hv with⟨i,t,rfl,rfl⟩ | ⟨x,t,rfl,rfl⟩
  ·exact wpAny_pyHash_int h
  ·exact wpAny_pyHash_str h
 eqBool:=λhu hv h=>by
  rcases xa hu with⟨i,t,rfl,rfl⟩ | ⟨x,t,rfl,rfl⟩
  ·rcases xa hv with⟨j,u,rfl,rfl⟩ | ⟨y,u,rfl,rfl⟩
   ·rw[GN] at h;exact wpAny_eqBool_int h
   ·rw[Uk] at h;exact SeqAt.EqAt.int_str i t y u _ _ _ _ h
  ·rcases xa hv with⟨j,u,rfl,rfl⟩ | ⟨y,u,rfl,rfl⟩
   ·rw[GL] at h;exact SeqAt.EqAt.str_int x t j u _ _ _ _ h
   ·rw[Gx] at h;exact wpAny_eqBool_str h
 «strs»:=λk x t v h=>by
  rcases xa h with⟨i,u,rfl,e⟩ | ⟨y,u,rfl,e⟩
  ·exact nomatch e
  ·injection e with e1 _
   subst e1
   cases v<;>rfl
theorem Ge (prog:Program)(w:World)(i:Int)(t:Tok):(zP prog w).is (.inl i) (.int i t)=true:=Rj i t
theorem zcr (prog:Program)(w:World)(x:Str)(t:Tok):(zP prog w).is (.inr x) (.str x t)=true:=R0 x t
inductive V where
 |non | bl (b:Bool) | int (i:Int) | str (x:Str) | byt (b:Array UInt8) | flt (b:UInt64) | ref (a:Addr) | ty (n:String)
 deriving DecidableEq
def RelV:V->Value->Prop
 |.non,u=>u=Value.none
 |.bl b,u=>u=Value.bool b
 |.int i,u=>∃t,u=Value.int i t
 |.str x,u=>∃t,u=Value.str x t
 |.byt b,u=>∃t,u=Value.bytes b t
 |.flt b,u=>∃t,u=Value.float b t
 |.ref a,u=>u=Value.ref a
 |.ty n,u=>u=Value.type n
abbrev Vals:List V->List Value->Prop:=Paired RelV
theorem Vals.length {xs:List V}{us:List Value}(r:Vals xs us):xs.length=us.length:=Paired.length r
theorem Vals.get:∀ {xs:List V} {us:List Value} {i:Nat} {x:V},Vals xs us->xs[i]?=some x->∃u,us[i]?=some u/\RelV x u
 |_,_,_,_,.nil,e=>by simp at e
 |_,_,0,_,.cons r _,e=>by simp at e;subst e;exact⟨_,rfl,r⟩
 |_,_,i+1,x,.cons _ t,e=>by
  obtain⟨u,h1,h2⟩:=Vals.get (i:=i) (x:=x) t (by simpa using e)
  exact⟨u,by simpa using h1,h2⟩
theorem Vals.set {x:V}{u:Value}(r:RelV x u):∀ {xs:List V} {us:List Value} (i:Nat),Vals xs us->Vals (xs.set i x) (us.set i u)
 |_,_,_,.nil=>.nil
 |_,_,0,.cons _ t=>.cons r t
 |_,_,i+1,.cons q t=>.cons q (Vals.set r i t)
theorem Vals.append:∀ {xs ys:List V} {us ws:List Value},Vals xs us->Vals ys ws->Vals (xs++ys) (us++ws)
 |_,_,_,_,.nil,s=>s
 |_,_,_,_,.cons r t,s=>.cons r (Vals.append t s)
theorem Vals.take:∀ {xs:List V} {us:List Value} (n:Nat),Vals xs us->Vals (xs.take n) (us.take n)
 |_,_,0,_=>.nil
 |_,_,_+1,.nil=>.nil
 |_,_,n+1,.cons r t=>.cons r (Vals.take n t)
theorem Vals.drop:∀ {xs:List V} {us:List Value} (n:Nat),Vals xs us->Vals (xs.drop n) (us.drop n)
 |_,_,0,r=>r
 |_,_,_+1,.nil=>.nil
 |_,_,n+1,.cons _ t=>Vals.drop n t
def RelO:Option V->Option Value->Prop
 |some v,some u=>RelV v u
 |none,none=>True
 |_,_=>False
def KV {κ:Type}:List (κ×V)->List (κ×Value)->Prop:=Paired λ(p:κ×V) (q:κ×Value)=>p.1=q.1/\RelV p.2 q.2
def kV:Key->V
 |.inl i=>.int i
 |.inr x=>.str x
inductive HO where
  |lst (xs:List V)
  |tup (xs:List V)
  |dK (kvs:List (Key×V)) | dT (kvs:List (List Key×V))
  |set (S:Int->Bool) (n:Nat)
  |ins (C dx:Addr) (fs:List (Str×V))
  |own (x:Addr)
  |xd (fs:List (Str×V))
  |met (f x:Addr)
  |rng (lo hi:Int)
  |frz (o:Obj) (u:HO)
  |tbl (ps:Array Value)
  |ext (φ:Heap->Prop)
abbrev Hp:=Addr->Option HO
def upd (H:Hp)(a:Addr)(o:HO):Hp:=λb=>if b=a then some o else H b
theorem zy {H:Hp}{a:Addr}{o:HO}:upd H a o a=some o:=by unfold upd;rw[if_pos rfl]
theorem zr {H:Hp}{a b:Addr}{o:HO}(h:b≠a):upd H a o b=H b:=by unfold upd;rw[if_neg h]
theorem zg2 {H:Hp}{a:Addr}{o u:HO}:upd (upd H a o) a u=upd H a u:=by
 funext b;unfold upd;split<;>rfl
theorem x6 {H:Hp}{a b:Addr}{o u:HO}(h:H a=some o)(h':H b=some u)(d:o≠u):a≠b:=by
 intro e;subst e;rw[h] at h';exact d (Option.some.inj h')
theorem zH {H:Hp}{a b:Addr}{o:HO}(h:H a=some o)(h':H b=none):a≠b:=by
 intro e;subst e;rw[h] at h';cases h'
section
variable (P:Program)(w:World)
def ObjOk (H:Hp)(h:Heap)(a:Addr):HO->Prop
 |.lst xs=>xs.length<=sizeLine/\∃(its:List Value) (n:Nat),Vals xs its/\h.get? a=some { cls:=.type "list",data:=.seq its.toArray n }
 |.tup xs=>xs.length<=sizeLine/\∃its:List Value,Vals xs its/\IsTup h a its.toArray
 |.dK kvs=>kvs.length<=sizeLine/\(a==sysModules)=false/\∃vs,KV kvs vs/\h.DictOf (zP P w) a vs
 |.dT kvs=>kvs.length<=sizeLine/\(a==sysModules)=false/\∃xs:List (List Key×Addr×Value),
   Paired (λ(p:List Key×V) (q:List Key×Addr×Value)=>p.1=q.1/\H q.2.1=some (.tup (p.1.map kV))/\RelV p.2 q.2.2) kvs xs /\
   ∃o es ep,h.get? a=some o/\o.ExactDict/\o.data=.dict es ep/\es.toList=xs.map (entryOfKey (tupleKind (zP P w)))/\(xs.map (·.1)).Nodup
 |.set S n=>h.SetOf (intKind P w) a S n
 |.ins C dx fs=>H dx=some (.own a)/\fs.length<=1000/\dx≠a/\h.get? a=some (instObj C dx) /\
   ∃mA,h.Ns1 dx mA/\(∀f,RelO (fs.lookup f) (mA f))/\PySem.Within mA (fs.map (·.1))
 |.own _=>∃o,h.get? a=some o
 |.xd fs=>∃mA,h.Ns1 a mA/\∀f,RelO (fs.lookup f) (mA f)
 |.rng lo hi=>∃t u v,h.get? a=some { cls:=.type "range",data:=.fields #[.int lo t,.int hi u,.int 1 v] }
 |.frz o u=>h.get? a=some o/\ObjOk H h a u
 |.tbl ps=>h.get? a=some { cls:=.none,data:=.fields ps }
 |.met f x=>h.get? a=some (PySem.W.methodObj (.ref f) (.ref x))
 |.ext φ=>φ h/\(∃o,h.get? a=some o)/\∀h1 h2:Heap,φ h1->(∀o,h1.get? a=some o->h2.get? a=some o)->φ h2
def HOk (H:Hp)(h:Heap):Prop:=∀a o,H a=some o->ObjOk P w H h a o
end
section
variable {P:Program}{w:World}{H H':Hp}{h h':Heap}{a:Addr}{o:HO}
theorem ObjOk.lt (x:ObjOk P w H h a o):a < h.objs.size:=by
 cases o with
 |lst xs=>obtain⟨_,_,_,_,e⟩:=x;exact Heap.lt_size e
 |tup xs=>obtain⟨_,_,_,p⟩:=x;exact p.lt
 |dK kvs=>obtain⟨_,_,_,_,o,_,_,e,_⟩:=x;exact Heap.lt_size e
 |dT kvs=>obtain⟨_,_,_,_,o,_,_,e,_⟩:=x;exact Heap.lt_size e
 |set S n=>obtain⟨o,_,_,_,e,_⟩:=x;exact Heap.lt_size e
 |ins C dx fs=>obtain⟨_,_,_,e,_⟩:=x;exact Heap.lt_size e
 |own y=>obtain⟨_,e⟩:=x;exact Heap.lt_size e
 |xd fs=>obtain⟨_,⟨_,_,_,e,_⟩,_⟩:=x;exact Heap.lt_size e
 |rng lo hi=>obtain⟨_,_,_,e⟩:=x;exact Heap.lt_size e
 |frz ob u=>obtain⟨e,_⟩:=x;exact Heap.lt_size e
 |tbl ps=>exact Heap.lt_size (show h.get? a=some _ from x)
 |met f y=>exact Heap.lt_size (show h.get? a=some _ from x)
 |ext φ=>obtain⟨_,⟨_,e⟩,_⟩:=x;exact Heap.lt_size e
theorem Paired.mapP {α β:Type}{F G:α->β->Prop}:∀ {l₁:List α} {l₂:List β},Paired F l₁ l₂->(∀a b,F a b->G a b)->Paired G l₁ l₂
 |_,_,.nil,_=>.nil
 |_,_,.cons r t,f=>.cons (f _ _ r) (Paired.mapP t f)
theorem ObjOk.stay (x:ObjOk P w H h a o)(k:∀b u,(b=a∨H b=some (.own a))->h.get? b=some u->h'.get? b=some u)
  (ho:∀b,H b=some (.own a)->H' b=some (.own a)) (ht:∀b xs,H b=some (.tup xs)->H' b=some (.tup xs)):ObjOk P w H' h' a o:=by
 induction o with
 |lst xs=>obtain⟨z,its,n,r,e⟩:=x;exact⟨z,its,n,r,k _ _ (.inl rfl) e⟩
 |tup xs=>obtain⟨z,its,r,ob,e,c⟩:=x;exact⟨z,its,r,ob,k _ _ (.inl rfl) e,c⟩
 |dK kvs=>obtain⟨z,y,vs,r,ob,es,ep,e,c⟩:=x;exact⟨z,y,vs,r,ob,es,ep,k _ _ (.inl rfl) e,c⟩
 |dT kvs=>
  obtain⟨z,y,xs,r,ob,es,ep,e,c⟩:=x
  exact⟨z,y,xs,Paired.mapP r λp q z=>⟨z.1,ht _ _ z.2.1,z.2.2⟩,ob,es,ep,k _ _ (.inl rfl) e,c⟩
 |set S n=>obtain⟨ob,es,ep,t,e,c⟩:=x;exact⟨ob,es,ep,t,k _ _ (.inl rfl) e,c⟩
 |ins C dx fs=>
  obtain⟨d,z,ne,e,mA,⟨od,es,ep,e2,c⟩,r⟩:=x
  exact⟨ho _ d,z,ne,k _ _ (.inl rfl) e,mA,⟨od,es,ep,k _ _ (.inr d) e2,c⟩,r⟩
 |own y=>obtain⟨ob,e⟩:=x;exact⟨ob,k _ _ (.inl rfl) e⟩
 |xd fs=>obtain⟨mA,⟨od,es,ep,e,c⟩,r⟩:=x;exact⟨mA,⟨od,es,ep,k _ _ (.inl rfl) e,c⟩,r⟩
 |rng lo hi=>obtain⟨t,u,v,e⟩:=x;exact⟨t,u,v,k _ _ (.inl rfl) e⟩
 |frz ob u ih=>obtain⟨e,q⟩:=x;exact⟨k _ _ (.inl rfl) e,ih q⟩
 |tbl ps=>
  have e:h.get? a=some { cls:=.none,data:=.fields ps }:=x
  show h'.get? a=some { cls:=.none,data:=.fields ps }
  exact k a _ (.inl rfl) e
 |met f y=>
  have e:h.get? a=some (PySem.W.methodObj (.ref f) (.ref y)):=x
  show h'.get? a=some (PySem.W.methodObj (.ref f) (.ref y))
  exact k a _ (.inl rfl) e
 |ext φ=>obtain⟨p,⟨o,e⟩,st⟩:=x;exact⟨st _ _ p λo q=>k _ _ (.inl rfl) q,⟨o,k _ _ (.inl rfl) e⟩,st⟩
theorem HOk.lt (x:HOk P w H h)(e:H a=some o):a < h.objs.size:=(x a o e).lt
theorem HOk.fresh (x:HOk P w H h)(e:h.objs.size<=a):H a=none:=by
 cases q:H a with
 |none=>rfl
 |some u=>exact absurd (Nat.lt_of_lt_of_le (x.lt q) e) (Nat.lt_irrefl _)
theorem HOk.kept (x:HOk P w H h)(k:∀b u,h.get? b=some u->h'.get? b=some u):HOk P w H h':=λa o e=>
 (x a o e).stay (λb u _ q=>k b u q) (λ_ q=>q) λ_ _ q=>q
theorem HOk.laid (x:HOk P w H h)(k:∀b u,h.get? b=some u->h'.get? b=some u)(hp:h.objs.size<=a)(new:ObjOk P w (upd H a o) h' a o):HOk P w (upd H a o) h':=λb u e=>by
 have hn:=x.fresh hp
 by_cases hb:b=a
 ·subst hb;rw[zy] at e;cases e;exact new
 ·rw[zr hb] at e
  exact (x b u e).stay (λc v _ q=>k c v q) (λc q=>by rw[zr (zH q hn)];exact q) λc xs q=>by rw[zr (zH q hn)];exact q
end
def Rd (H:Hp)(a:Addr)(u:HO):Prop:=H a=some u∨∃o,H a=some (.frz o u)
theorem Rd.ok {P:Program}{w:World}{H:Hp}{h:Heap}{a:Addr}{u:HO}(r:Rd H a u)(x:HOk P w H h):ObjOk P w H h a u:=by
 rcases r with r | ⟨o,r⟩
 ·exact x a u r
 ·obtain⟨_,q⟩:=x a _ r
  exact q
def Mut:Option HO->Prop
 |some (.lst _)=>True
 |some (.dK _)=>True
 |some (.dT _)=>True
 |some (.set _ _)=>True
 |some (.ins _ _ _)=>True
 |some (.ext _)=>True
 |_=>False
section
variable {P:Program}{w:World}{H:Hp}{h h':Heap}{x e:Addr}{o':HO}
theorem HOk.write (ok:HOk P w H h)(mu:Mut (H x))(he:e=x∨H e=some (.own x))(k:∀b u,b≠e->h.get? b=some u->h'.get? b=some u)(heo:∃u,h'.get? e=some u)
  (new:ObjOk P w (upd H x o') h' x o'):HOk P w (upd H x o') h':=λb u q=>by
 have nown:∀c y,H c=some (.own y)->c≠x:=λc y r z=>by subst z;rw[r] at mu;exact mu
 have ntup:∀c xs,H c=some (.tup xs)->c≠x:=λc xs r z=>by subst z;rw[r] at mu;exact mu
 by_cases hb:b=x
 ·subst hb;rw[zy] at q;cases q;exact new
 ·rw[zr hb] at q
  by_cases hbe:b=e
  ·have q':H b=some (.own x):=by
    rcases he with z | z
    ·exact absurd (hbe.trans z) hb
    ·rw[hbe];exact z
   rw[q] at q';cases q'
   obtain⟨v,hv⟩:=heo
   exact⟨v,by rw[hbe];exact hv⟩
  ·refine (ok b u q).stay (λc v hc r=>k c v ?_ r) (λc r=>by rw[zr (nown c b r)];exact r) λc xs r=>by rw[zr (ntup c xs r)];exact r
   rcases hc with rfl | hc
   ·exact hbe
   ·rintro rfl
    rcases he with z | z
    ·exact nown c b hc z
    ·rw[hc] at z;cases z;exact hb rfl
end
structure Un (fs ex:List Addr)(H H':Hp)(h h':Heap):Prop where
 keep:∀b o,h.get? b=some o->H b=none->b∉fs->b∉ex->h'.get? b=some o
 slot:∀b o,h.get? b=some o->H b=none->b∈fs->b∉ex->∃sl,h'.get? b=some { o with slots:=sl }
 free:∀b o,h.get? b=some o->H b=none->b∉ex->H' b=none
 there:∀b o,h.get? b=some o->b∉ex->∃o',h'.get? b=some o'
 tups:∀b xs,H b=some (.tup xs)->H' b=some (.tup xs)
 frzs:∀b o u,H b=some (.frz o u)->H' b=some (.frz o u)
 tbls:∀b ps,H b=some (.tbl ps)->∃more,H' b=some (.tbl (ps++more))
section
variable {fs fs' ex ex':List Addr}{H H1 H2:Hp}{h h1 h2 h':Heap}{a x e:Addr}{o:HO}
theorem Un.any (u:Un fs ex H H1 h h1){b:Addr}{ob:Obj}(q:h.get? b=some ob)(n:H b=none)(hx:b∉ex):∃sl,h1.get? b=some { ob with slots:=sl }:=by
 by_cases hb:b∈fs
 ·exact u.slot b ob q n hb hx
 ·exact⟨ob.slots,u.keep b ob q n hb hx⟩
theorem Un.kept (k:∀b u,h.get? b=some u->h'.get? b=some u):Un fs ex H H h h' :=
 ⟨λb ob q _ _ _=>k b ob q,λb ob q _ _ _=>⟨ob.slots,k b ob q⟩,λ_ _ _ n _=>n,λb ob q _=>⟨ob,k b ob q⟩,λ_ _ q=>q,λ_ _ _ q=>q,λ_ ps q=>⟨#[],by rw[q];simp⟩⟩
theorem Un.refl:Un fs ex H H h h:=Un.kept λ_ _ q=>q
theorem Un.laid (k:∀b u,h.get? b=some u->h'.get? b=some u)(hp:h.objs.size<=a)(hn:H a=none):Un fs ex H (upd H a o) h h' where
 keep:=λb u q _ _ _=>k b u q
 slot:=λb u q _ _ _=>⟨u.slots,k b u q⟩
 free:=λb u q n _=>by rw[zr (Nat.ne_of_lt (Nat.lt_of_lt_of_le (Heap.lt_size q) hp))];exact n
 there:=λb u q _=>⟨u,k b u q⟩
 tups:=λb xs q=>by rw[zr (zH q hn)];exact q
 frzs:=λb u xs q=>by rw[zr (zH q hn)];exact q
 tbls:=λb ps q=>⟨#[],by rw[zr (zH q hn),q];simp⟩
theorem Un.write (mu:Mut (H x))(he:e=x∨H e=some (.own x))(k:∀b u,b≠e->h.get? b=some u->h'.get? b=some u)(heo:∃u,h'.get? e=some u):Un fs ex H (upd H x o) h h':=by
 have hx:∀b,H b=none->b≠x:=λb n z=>by subst z;rw[n] at mu;exact mu
 have hb:∀b,H b=none->b≠e:=λb n z=>by
  subst z
  rcases he with r | r
  ·exact hx b n r
  ·rw[n] at r;cases r
 have hm:∀b u,H b=some u->¬Mut (some u)->b≠x:=λb u q nm z=>by subst z;rw[q] at mu;exact nm mu
 refine⟨λb u q n _ _=>k b u (hb b n) q,λb u q n _ _=>⟨u.slots,k b u (hb b n) q⟩,λb u q n _=>by rw[zr (hx b n)];exact n,λb u q _=>?_,
  λb xs q=>by rw[zr (hm b _ q λz=>z)];exact q,λb u xs q=>by rw[zr (hm b _ q λz=>z)];exact q,λb ps q=>⟨#[],by rw[zr (hm b _ q λz=>z),q];simp⟩⟩
 by_cases hbe:b=e
 ·subst hbe;exact heo
 ·exact⟨u,k b u hbe q⟩
end
def trk (h:Heap)(H:Hp):List Addr:=(List.range h.objs.size).filter λa=>(H a).isSome
def hidT (h:Heap)(H:Hp):Heap:=PySem.W.hideAll h (trk h H)
theorem Gr (h:Heap)(H:Hp):(hidT h H).objs.size=h.objs.size:=PySem.W.hideAll_size _ _
theorem zbn {h:Heap}{H:Hp}{b:Addr}{o:Obj}(e:h.get? b=some o)(n:H b=none):(hidT h H).get? b=some o :=
 PySem.W.hideAll_get _ e λhm=>by
  have q:(H b).isSome=true:=(List.mem_filter.mp hm).2
  rw[n] at q;simp at q
theorem zhg {h:Heap}{H:Hp}{b:Addr}{o:Obj}(e:(hidT h H).get? b=some o):h.get? b=some o/\H b=none:=by
 have e':h.get? b=some o:=PySem.W.of_hideAll (trk h H) e
 refine⟨e',?_⟩
 cases q:H b with
 |none=>rfl
 |some x=>
  have hm:b∈trk h H:=List.mem_filter.mpr ⟨List.mem_range.mpr (Heap.lt_size e'),by simp[q]⟩
  have z:(hidT h H).get? b=none:=PySem.W.hideAll_none (trk h H) hm
  rw[z] at e;cases e
def RF (g h:Heap)(L:Addr):List (Addr×Obj):=(List.range h.objs.size).filterMap λa=>if a=L∨(g.get? a).isSome=true then none else (h.get? a).map λo=>(a,o)
def rest (g h:Heap)(L d:Addr):List (Addr×Obj):=(RF g h L).filter λp=>decide (p.1≠d)
structure Mod (K:PySem.W.Frag)(mg:Str->Option Value)(base:Heap):Prop where
 kin:K.In base
 glob:base.Ns mainGlobals mg
 blt:∃mb,base.Ns builtinsNs mb/\∀x:Str,x ≠ "__name__" -> mb x=bootBuiltins x
 nolimit:base.NoLimit
structure Cx where
 prog:Program
 w:World
 K:PySem.W.Frag
 mg:Str->Option Value
 base:Heap
 A:Around
 N:List Str
 s₀:Shared
 H₀:Hp
 env:Env
 outer:List Env
 stack:List Env
 ex:List Addr
 fn:Str->Bool
 calm:Bool
 pn:List (Addr×Obj)
 xe:Value->Shared->Prop
def frs (l:List Env):List Addr:=l.filterMap (·.frame)
abbrev Cx.fs (X:Cx):List Addr:=frs X.outer
def Vis (sc:Scope)(x:Str):Prop:=sc.names.lookup x=some .local∨sc.names.lookup x=some .cell∨sc.names.lookup x=some .free
def Loc (sc:Scope)(x:Str):Prop:=sc.names.lookup x=some .local∨sc.names.lookup x=some .cell
theorem locl {sc:Scope}{x:Str}(h:(match sc.names.lookup x with | some .local=>true | some .cell=>true | _=>false)=true):Loc sc x:=by
 unfold Loc
 split at h<;>simp_all
def Look (env:Env)(h:Heap)(m:Str->Option Value)(x:Str)(u:Value):Prop :=
 (env.kindOf x=some .local/\m x=some u)∨((env.kindOf x=some .cell∨env.kindOf x=some .free)/\∃c,env.cells.lookup x=some c/\h.IsCell c (some u))
structure Cx.Ok (X:Cx):Prop where
 mod:Mod X.K X.mg X.base
 kind:X.env.scope.kind=.function
 glob:X.env.globals=mainGlobals
 blt:X.env.builtins=builtinsNs
 above:X.s₀.heap.objs.size<=X.env.locals
 inj:∀x y c,X.env.cells.lookup x=some c->X.env.cells.lookup y=some c->x=y
 has:∀x,(X.env.kindOf x=some .cell∨X.env.kindOf x=some .free)->∃c,X.env.cells.lookup x=some c
 cab:∀x c,X.fn x=true->X.env.cells.lookup x=some c->X.s₀.heap.objs.size<=c
 hd:X.calm=true->X.A.handled=none
 frames:X.A.frames=some X.stack
 stk:X.stack=X.outer∨(X.stack=X.env::X.outer/\X.env.frame=some X.env.locals)
 exf:∀b∈X.ex,b≠X.env.locals/\∀x c,X.env.cells.lookup x=some c->c≠b
 bs:∀b o,X.base.get? b=some o->X.s₀.heap.get? b=some o/\X.H₀ b=none
 bsz:X.base.objs.size<=X.s₀.heap.objs.size
 noex:∀b o,X.base.get? b=some o->b∉X.ex
 exfs:∀b∈X.ex,b∉X.fs
 funs:X.s₀.heap.FunFrames X.base X.outer
 frf:∀b∈X.fs,X.H₀ b=none
structure Inv (X:Cx)(pins:List (Addr×Obj))(σ:List (Option V))(H:Hp)(s:Shared):Prop where
 ok:X.Ok
 os:s.os=X.s₀.os
 bare:AllBare s.gens
 base:Un X.fs X.ex X.H₀ H X.s₀.heap s.heap
 loc:∃m,s.heap.Ns X.env.locals m/\∀(i:Nat) (x:Str) (v:V),X.N[i]?=some x->σ[i]?=some (some v)->Vis X.env.scope x->∃u,RelV v u/\Look X.env s.heap m x u
 cell:∀x c,X.env.cells.lookup x=some c->∃v,s.heap.IsCell c v
 free:H X.env.locals=none
 freeC:∀x c,X.env.cells.lookup x=some c->H c=none
 pin:∀p∈X.pn++pins,s.heap.get? p.1=some p.2/\H p.1=none/\p.1≠X.env.locals/\p.1∉X.fs/\∀v,p.2.data≠.cell v
 hok:HOk X.prog X.w H s.heap
 len:σ.length=X.N.length
section
variable {X:Cx}{pins:List (Addr×Obj)}{σ:List (Option V)}{H H':Hp}{s:Shared}{h':Heap}
theorem Cx.Ok.nofr (ok:X.Ok){b:Addr}{o:Obj}(e:X.base.get? b=some o):b∉X.fs:=λhb=>by
 have:=(ok.funs.mem hb).1
 rw[e] at this;cases this
theorem Inv.bs (I:Inv X pins σ H s):∀b o,X.base.get? b=some o->s.heap.get? b=some o/\H b=none:=λb o e=>
 ⟨I.base.keep b o (I.ok.bs b o e).1 (I.ok.bs b o e).2 (I.ok.nofr e) (I.ok.noex b o e),I.base.free b o (I.ok.bs b o e).1 (I.ok.bs b o e).2 (I.ok.noex b o e)⟩
theorem Inv.bk (I:Inv X pins σ H s):∀b o,X.base.get? b=some o->s.heap.get? b=some o:=λb o e=>(I.bs b o e).1
theorem Inv.mod (I:Inv X pins σ H s):Mod X.K X.mg X.base:=I.ok.mod
theorem Inv.kIn (I:Inv X pins σ H s):X.K.In s.heap:=I.ok.mod.kin.keeps I.bk
theorem Inv.lt (I:Inv X pins σ H s):X.env.locals < s.heap.objs.size:=let ⟨_,hn,_⟩:=I.loc;hn.lt
theorem Inv.sz (I:Inv X pins σ H s):X.s₀.heap.objs.size<=s.heap.objs.size:=Nat.le_trans I.ok.above (Nat.le_of_lt I.lt)
theorem Inv.nofs (I:Inv X pins σ H s){a:Addr}(h:s.heap.objs.size<=a):a∉X.fs:=λhb=>by
 obtain⟨_,o,ho,_⟩:=I.ok.funs.mem hb
 exact absurd (Nat.lt_of_lt_of_le (Heap.lt_size ho) (Nat.le_trans I.sz h)) (Nat.lt_irrefl _)
theorem Inv.cne (I:Inv X pins σ H s):∀x c,X.env.cells.lookup x=some c->c≠X.env.locals:=λx c e z=>by
 obtain⟨v,o,ho,hd⟩:=I.cell x c e
 obtain⟨m,⟨o',es,ep,ho',hd',_⟩,_⟩:=I.loc
 rw[z,ho'] at ho;cases ho;rw[hd'] at hd;cases hd
theorem Inv.funs (I:Inv X pins σ H s):s.heap.FunFrames X.base X.outer:=by
 have all:∀(l:List Env),(∀b∈frs l,b∈X.fs)->X.s₀.heap.FunFrames X.base l->s.heap.FunFrames X.base l:=by
  intro l
  induction l with
  |nil=>intro _ _;trivial
  |cons env r ih=>
   intro hs hl
   obtain⟨hk,⟨L,o,hf,hn,ho,hd⟩,hr⟩:=hl
   have hL:L∈X.fs:=hs L (by unfold frs;rw[List.filterMap_cons,hf];exact List.mem_cons_self)
   obtain⟨sl,e⟩:=I.base.slot L o ho (I.ok.frf L hL) hL λz=>I.ok.exfs L z hL
   exact⟨hk,⟨L,_,hf,hn,e,hd⟩,ih (λb hb=>hs b (by unfold frs;rw[List.filterMap_cons,hf];exact List.mem_cons_of_mem _ hb)) hr⟩
 exact all X.outer (λ_ hb=>hb) I.ok.funs
theorem Inv.stack (I:Inv X pins σ H s):s.heap.FunFrames X.base X.stack:=by
 rcases I.ok.stk with e | ⟨e,hf⟩
 ·rw[e];exact I.funs
 ·rw[e]
  obtain⟨m,hn,_⟩:=I.loc
  refine .cons (by rw[I.ok.kind];decide) hf hn ?_ I.funs
  exact Heap.get?_none_of_le (Nat.le_trans I.ok.bsz I.ok.above)
theorem Inv.stkSub (I:Inv X pins σ H s):∀b∈frs X.stack,b∈X.env.locals::X.fs:=λb hb=>by
 rcases I.ok.stk with e | ⟨e,hf⟩
 ·rw[e] at hb;exact List.mem_cons_of_mem _ hb
 ·rw[e] at hb
  unfold frs at hb
  rw[List.filterMap_cons,hf] at hb
  exact hb
theorem Inv.stkFree (I:Inv X pins σ H s):∀b∈frs X.stack,H b=none:=λb hb=>by
 rcases List.mem_cons.mp (I.stkSub b hb) with e | hb
 ·rw[e];exact I.free
 ·obtain⟨_,o,ho,_⟩:=I.ok.funs.mem hb
  exact I.base.free b o ho (I.ok.frf b hb) λz=>I.ok.exfs b z hb
theorem Inv.step {g':Array GenState}{t':Nat}{d':Drawn}{ch:List Addr}(I:Inv X pins σ H s)
  (hch:∀b∈ch,(b∈X.ex∨X.s₀.heap.objs.size<=b)/\b≠X.env.locals/\(∀x c,X.env.cells.lookup x=some c->c≠b)/\∀p∈X.pn++pins,p.1≠b)
  (keep:∀b o,b≠X.env.locals->b∉X.fs->b∉ch->s.heap.get? b=some o->H b=none->h'.get? b=some o)
  (slot:∀b o,b≠X.env.locals->b∈X.fs->b∉ch->s.heap.get? b=some o->H b=none->∃sl,h'.get? b=some { o with slots:=sl }) (free:∀b o,b∉ch->s.heap.get? b=some o->H b=none->H' b=none)
  (there:∀b o,b∉ch->s.heap.get? b=some o->∃o',h'.get? b=some o')
  (tups:∀b xs,H b=some (.tup xs)->H' b=some (.tup xs)) (frzs:∀b o u,H b=some (.frz o u)->H' b=some (.frz o u)) (tbls:∀b ps,H b=some (.tbl ps)->∃more,H' b=some (.tbl (ps++more)))
  (ns:∀m,s.heap.Ns X.env.locals m->h'.Ns X.env.locals m) (hok:HOk X.prog X.w H' h') (hg:AllBare g') :
  Inv X pins σ H' { s with heap:=h',gens:=g',drawn:=d',toks:=t' }:=by
 have neL:∀b o,X.s₀.heap.get? b=some o->b≠X.env.locals:=λb o e=>Nat.ne_of_lt (Nat.lt_of_lt_of_le (Heap.lt_size e) I.ok.above)
 have neC:∀b o,X.s₀.heap.get? b=some o->b∉X.ex->b∉ch:=λb o e hx hb=>by
  rcases (hch b hb).1 with z | z
  ·exact hx z
  ·exact absurd (Nat.lt_of_lt_of_le (Heap.lt_size e) z) (Nat.lt_irrefl _)
 have cellK:∀x c,X.env.cells.lookup x=some c->∀v,s.heap.IsCell c v->h'.IsCell c v:=λx c e v ⟨o,ho,hd⟩=>by
  have nch:c∉ch:=λz=>(hch c z).2.2.1 x c e rfl
  by_cases hc:c∈X.fs
  ·obtain⟨sl,q⟩:=slot c o (I.cne x c e) hc nch ho (I.freeC x c e)
   exact⟨_,q,hd⟩
  ·exact⟨o,keep c o (I.cne x c e) hc nch ho (I.freeC x c e),hd⟩
 refine⟨I.ok,I.os,hg,⟨λb o e n hb hx=>?_,λb o e n hb hx=>?_,λb o e n hx=>?_,λb o e hx=>?_,λb xs e=>tups b xs (I.base.tups b xs e),λb o xs e=>frzs b o xs (I.base.frzs b o xs e),λb ps e=>?_⟩,?_,λx c e=>?_,?_,λx c e=>?_,λp hp=>?_,hok,I.len⟩
 ·exact keep b o (neL b o e) hb (neC b o e hx) (I.base.keep b o e n hb hx) (I.base.free b o e n hx)
 ·obtain⟨sl,e1⟩:=I.base.slot b o e n hb hx
  obtain⟨sl',e2⟩:=slot b _ (neL b o e) hb (neC b o e hx) e1 (I.base.free b o e n hx)
  exact⟨sl',e2⟩
 ·obtain⟨o',e1⟩:=I.base.there b o e hx
  exact free b o' (neC b o e hx) e1 (I.base.free b o e n hx)
 ·obtain⟨o',e1⟩:=I.base.there b o e hx
  exact there b o' (neC b o e hx) e1
 ·obtain⟨m1,e1⟩:=I.base.tbls b ps e
  obtain⟨m2,e2⟩:=tbls b _ e1
  exact⟨m1++m2,by rw[e2,Array.append_assoc]⟩
 ·obtain⟨m,hn,hl⟩:=I.loc
  refine⟨m,ns m hn,λi x v e1 e2 e3=>?_⟩
  obtain⟨u,r,l⟩:=hl i x v e1 e2 e3
  refine⟨u,r,?_⟩
  rcases l with l | ⟨k,c,e,z⟩
  ·exact .inl l
  ·exact .inr ⟨k,c,e,cellK x c e _ z⟩
 ·obtain⟨v,z⟩:=I.cell x c e
  exact⟨v,cellK x c e v z⟩
 ·obtain⟨m,⟨o,_,_,ho,_⟩,_⟩:=I.loc
  exact free _ o (λz=>(hch _ z).2.1 rfl) ho I.free
 ·obtain⟨v,o,ho,hd⟩:=I.cell x c e
  exact free c o (λz=>(hch c z).2.2.1 x c e rfl) ho (I.freeC x c e)
 ·obtain⟨e,n,ne,nf,d⟩:=I.pin p hp
  have nch:p.1∉ch:=λz=>(hch p.1 z).2.2.2 p hp rfl
  exact⟨keep p.1 p.2 ne nf nch e n,free p.1 p.2 nch e n,ne,nf,d⟩
theorem Inv.un {t':Nat}(I:Inv X pins σ H s)(u:Un X.fs [] H H' s.heap h')(hok:HOk X.prog X.w H' h'):Inv X pins σ H' { s with heap:=h',toks:=t' }:=by
 obtain⟨m,⟨o,es,ep,ho,r⟩,_⟩:=id I.loc
 obtain⟨sl,hL⟩:=u.any ho I.free (by simp)
 exact I.step (g':=s.gens) (d':=s.drawn) (ch:=[]) (λ_ z=>nomatch z) (λb o _ hb _ e n=>u.keep b o e n hb (by simp)) (λb o _ hb _ e n=>u.slot b o e n hb (by simp)) (λb o _ e n=>u.free b o e n (by simp)) (λb o _ e=>u.there b o e (by simp)) u.tups u.frzs u.tbls (λm' hm=>by
  obtain⟨o',es',ep',ho',r'⟩:=hm
  rw[ho] at ho';cases ho'
  exact⟨_,es',ep',hL,r'⟩) hok I.bare
theorem Inv.call {g':Array GenState}{t':Nat}{d':Drawn}{ch:List Addr}(I:Inv X pins σ H s)(u:Un (frs X.stack) ch H H' s.heap h')(hok:HOk X.prog X.w H' h')(hg:AllBare g')
  (hch:∀b∈ch,(b∈X.ex∨X.s₀.heap.objs.size<=b)/\b≠X.env.locals/\(∀x c,X.env.cells.lookup x=some c->c≠b)/\∀p∈X.pn++pins,p.1≠b) :
  Inv X pins σ H' { s with heap:=h',gens:=g',drawn:=d',toks:=t' }:=by
 obtain⟨m,⟨o,es,ep,ho,r⟩,_⟩:=id I.loc
 obtain⟨sl,hL⟩:=u.any ho I.free λz=>(hch _ z).2.1 rfl
 exact I.step (ch:=ch) hch (λb o hL hb hc e n=>u.keep b o e n (λz=>(List.mem_cons.mp (I.stkSub b z)).elim hL hb) hc) (λb o _ _ hc e n=>u.any e n hc) (λb o hc e n=>u.free b o e n hc) (λb o hc e=>u.there b o e hc) u.tups u.frzs u.tbls (λm' hm=>by
  obtain⟨o',es',ep',ho',r'⟩:=hm
  rw[ho] at ho';cases ho'
  exact⟨_,es',ep',hL,r'⟩) hok hg
theorem Inv.turned {t':Nat}{it:Addr}(I:Inv X pins σ H s)(k:∀b o,b≠it->s.heap.get? b=some o->h'.get? b=some o)(hn:H it=none)(hL:it≠X.env.locals)
  (h1:it∈X.ex∨X.s₀.heap.objs.size<=it) (h2:∀x c,X.env.cells.lookup x=some c->c≠it) (h3:∀p∈X.pn++pins,p.1≠it):Inv X pins σ H { s with heap:=h',toks:=t' }:=by
 have nit:∀b u,H b=some u->b≠it:=λb u e z=>by rw[z,hn] at e;cases e
 refine I.step (g':=s.gens) (d':=s.drawn) (ch:=[it]) (λb hb=>?_) (λb o _ _ hc e _=>k b o (λz=>hc (by simp[z])) e) (λb o _ _ hc e _=>⟨o.slots,k b o (λz=>hc (by simp[z])) e⟩) (λ_ _ _ _ n=>n)
  (λb o hc e=>⟨o,k b o (λz=>hc (by simp[z])) e⟩) (λ_ _ e=>e) (λ_ _ _ e=>e) (λb ps e=>⟨#[],by rw[e];simp⟩) (λm hm=>?_) (λb u e=>?_) I.bare
 ·have e:b=it:=by simpa using hb
  subst e
  exact⟨h1,hL,h2,h3⟩
 ·obtain⟨o,es,ep,ho,r⟩:=hm
  exact⟨o,es,ep,k _ o (Ne.symm hL) ho,r⟩
 ·refine (I.hok b u e).stay (λc v hc q=>k c v ?_ q) (λ_ q=>q) λ_ _ q=>q
  rcases hc with z | z
  ·rw[z];exact nit b u e
  ·exact nit c _ z
theorem Inv.tok (I:Inv X pins σ H s)(t:Nat):Inv X pins σ H { s with toks:=t }:=I.un (h':=s.heap) (t':=t) Un.refl I.hok
theorem Inv.kept {t':Nat}(I:Inv X pins σ H s)(k:∀b u,s.heap.get? b=some u->h'.get? b=some u):Inv X pins σ H { s with heap:=h',toks:=t' }:=I.un (Un.kept k) (I.hok.kept k)
theorem Inv.laid {a:Addr}{o:HO}{t':Nat}(I:Inv X pins σ H s)(k:∀b u,s.heap.get? b=some u->h'.get? b=some u)(hp:s.heap.objs.size<=a)(new:ObjOk X.prog X.w (upd H a o) h' a o) :
  Inv X pins σ (upd H a o) { s with heap:=h',toks:=t' }:=I.un (Un.laid k hp (I.hok.fresh hp)) (I.hok.laid k hp new)
theorem Inv.write {x e:Addr}{o:HO}{t':Nat}(I:Inv X pins σ H s)(mu:Mut (H x))(he:e=x∨H e=some (.own x))(k:∀b u,b≠e->s.heap.get? b=some u->h'.get? b=some u)(heo:∃u,h'.get? e=some u)
  (new:ObjOk X.prog X.w (upd H x o) h' x o):Inv X pins σ (upd H x o) { s with heap:=h',toks:=t' }:=I.un (Un.write mu he k heo) (I.hok.write mu he k heo new)
theorem Inv.pins_of {pins':List (Addr×Obj)}(I:Inv X pins σ H s)(h:∀p∈pins',s.heap.get? p.1=some p.2/\H p.1=none/\p.1≠X.env.locals/\p.1∉X.fs/\∀v,p.2.data≠.cell v):Inv X pins' σ H s :=
 ⟨I.ok,I.os,I.bare,I.base,I.loc,I.cell,I.free,I.freeC,λp hp=>(List.mem_append.mp hp).elim (λz=>I.pin p (List.mem_append_left _ z)) (h p),I.hok,I.len⟩
theorem uU {N:List Str}(hN:N.Nodup){i j:Nat}{x:Str}(a:N[i]?=some x)(b:N[j]?=some x):i=j:=by
 obtain⟨h1,e1⟩:=List.getElem?_eq_some_iff.mp a
 obtain⟨h2,e2⟩:=List.getElem?_eq_some_iff.mp b
 exact (List.getElem_inj hN).mp (e1.trans e2.symm)
theorem YH {M:Model}{A:Around}{E:Value->Shared->Prop}{i:Nat}{x:Str}{v:V}{u:Value}{Q:Unit->Shared->Prop}(I:Inv X pins σ H s)(hN:X.N.Nodup)(hi:X.N[i]?=some x)(hx:Loc X.env.scope x)(r:RelV v u)
  (h:∀s',Inv X pins (σ.set i (some v)) H s'->(∃a,Heap.SameBut a s.heap s'.heap/\(a=X.env.locals∨X.env.cells.lookup x=some a))->Q () s') (hf:X.fn x=true∨X.env.scope.names.lookup x=some .local:=by first | exact .inl rfl | exact .inr rfl | assumption):wpAny M A (storeName X.env x u) Q E s:=by
 obtain⟨m,hn,hl⟩:=id I.loc
 have hcls:(X.env.scope.kind==.class||(X.env.scope.kind==.module&&X.env.locals != X.env.globals))=false:=by rw[I.ok.kind];rfl
 have hiσ:i < σ.length:=by rw[I.len];exact (List.getElem?_eq_some_iff.mp hi).1
 have cne:=I.cne
 have tracked:∀ {a:Addr} {h':Heap},(∃o,s.heap.get? a=some o/\H a=none)->Heap.SameBut a s.heap h'->HOk X.prog X.w H h':=fun {a h'} ha hs b ob e=>by
  obtain⟨_,_,hfree⟩:=ha
  refine (I.hok b ob e).stay (λc w' hc q=>(hs.2 c ?_).trans q) (λ_ q=>q) λ_ _ q=>q
  rintro rfl
  rcases hc with rfl | hc
  ·rw[hfree] at e;cases e
  ·rw[hfree] at hc;cases hc
 rcases hx with hk | hk
 ·refine wpAny_storeName_local hk hn (λh' hn' hs=>?_) hcls
  obtain⟨oL,_,_,hoL,_⟩:=id hn
  refine h _ ⟨I.ok,I.os,I.bare,⟨λb o e n hb hx=>?_,λb o e n hb hx=>?_,I.base.free,λb o e hx=>?_,I.base.tups,I.base.frzs,I.base.tbls⟩,⟨_,hn',λj y v' e1 e2 e3=>?_⟩,λy c e=>?_,I.free,I.freeC,λp hp=>?_,tracked ⟨oL,hoL,I.free⟩ hs,by simpa using I.len⟩ ⟨_,hs,.inl rfl⟩
  ·exact (hs.2 b (Nat.ne_of_lt (Nat.lt_of_lt_of_le (Heap.lt_size e) I.ok.above))).trans (I.base.keep b o e n hb hx)
  ·obtain⟨sl,e1⟩:=I.base.slot b o e n hb hx
   exact⟨sl,(hs.2 b (Nat.ne_of_lt (Nat.lt_of_lt_of_le (Heap.lt_size e) I.ok.above))).trans e1⟩
  ·obtain⟨o',e1⟩:=I.base.there b o e hx
   exact⟨o',(hs.2 b (Nat.ne_of_lt (Nat.lt_of_lt_of_le (Heap.lt_size e) I.ok.above))).trans e1⟩
  ·by_cases hj:j=i
   ·subst hj
    rw[hi] at e1;cases e1
    rw[List.getElem?_set_self hiσ] at e2
    cases e2
    exact⟨u,r,.inl ⟨hk,by simp⟩⟩
   ·rw[List.getElem?_set_ne (Ne.symm hj)] at e2
    obtain⟨u',r',q⟩:=hl j y v' e1 e2 e3
    refine⟨u',r',?_⟩
    rcases q with⟨k,e⟩ | ⟨k,c,e,z⟩
    ·refine .inl ⟨k,?_⟩
     have:y≠x:=λe=>hj (uU hN e1 (e ▸ hi))
     simp[this,e]
    ·exact .inr ⟨k,c,e,z.sameBut hs (cne y c e)⟩
  ·obtain⟨w',z⟩:=I.cell y c e
   exact⟨w',z.sameBut hs (cne y c e)⟩
  ·obtain⟨e,n,ne,nf,d⟩:=I.pin p hp
   exact⟨(hs.2 p.1 ne).trans e,n,ne,nf,d⟩
 ·have hfn:X.fn x=true:=by
   rcases hf with z | z
   ·exact z
   ·rw[z] at hk;cases hk
  obtain⟨c,hc⟩:=I.ok.has x (.inl hk)
  obtain⟨w',z⟩:=I.cell x c hc
  refine wpAny_storeName_cell I.ok.kind hk hc z (λh' hc' hs=>?_)
  obtain⟨oc,hoc,hocd⟩:=id z
  refine h { s with heap:=h' } ⟨I.ok,I.os,I.bare,⟨λb o e n hb hx=>?_,λb o e n hb hx=>?_,I.base.free,λb o e hx=>?_,I.base.tups,I.base.frzs,I.base.tbls⟩,⟨m,hn.sameBut hs (Ne.symm (cne x c hc)),λj y v' e1 e2 e3=>?_⟩,λy c' e=>?_,I.free,I.freeC,λp hp=>?_,tracked ⟨oc,hoc,I.freeC x c hc⟩ hs,by simpa using I.len⟩ ⟨c,hs,.inr hc⟩
  ·exact (hs.2 b (Nat.ne_of_lt (Nat.lt_of_lt_of_le (Heap.lt_size e) (I.ok.cab x c hfn hc)))).trans (I.base.keep b o e n hb hx)
  ·obtain⟨sl,e1⟩:=I.base.slot b o e n hb hx
   exact⟨sl,(hs.2 b (Nat.ne_of_lt (Nat.lt_of_lt_of_le (Heap.lt_size e) (I.ok.cab x c hfn hc)))).trans e1⟩
  ·obtain⟨o',e1⟩:=I.base.there b o e hx
   exact⟨o',(hs.2 b (Nat.ne_of_lt (Nat.lt_of_lt_of_le (Heap.lt_size e) (I.ok.cab x c hfn hc)))).trans e1⟩
  ·by_cases hj:j=i
   ·subst hj
    rw[hi] at e1;cases e1
    rw[List.getElem?_set_self hiσ] at e2
    cases e2
    exact⟨u,r,.inr ⟨.inl hk,c,hc,hc'⟩⟩
   ·rw[List.getElem?_set_ne (Ne.symm hj)] at e2
    obtain⟨u',r',q⟩:=hl j y v' e1 e2 e3
    refine⟨u',r',?_⟩
    rcases q with q | ⟨k,c',e,z'⟩
    ·exact .inl q
    ·refine .inr ⟨k,c',e,z'.sameBut hs ?_⟩
     rintro rfl
     exact hj (uU hN e1 (I.ok.inj _ _ _ e hc ▸ hi))
  ·by_cases hcc:c'=c
   ·subst hcc;exact⟨_,hc'⟩
   ·obtain⟨w2,z2⟩:=I.cell y c' e
    exact⟨w2,z2.sameBut hs hcc⟩
  ·obtain⟨e,n,ne,nf,d⟩:=I.pin p hp
   refine⟨(hs.2 p.1 ?_).trans e,n,ne,nf,d⟩
   intro q
   rw[q,hoc] at e
   have q':oc=p.2:=Option.some.inj e
   exact d w' (by rw[<-q'];exact hocd)
theorem Yh {M:Model}{A:Around}{E:Value->Shared->Prop}{i:Nat}{x:Str}{v:V}{u:Value}{Q:Unit->Shared->Prop}(I:Inv X pins σ H s)(hN:X.N.Nodup)(hi:X.N[i]?=some x)(hx:Loc X.env.scope x)(r:RelV v u)
  (h:∀s',Inv X pins (σ.set i (some v)) H s'->Q () s') (hf:X.fn x=true∨X.env.scope.names.lookup x=some .local:=by first | exact .inl rfl | exact .inr rfl | assumption):wpAny M A (storeName X.env x u) Q E s :=
 YH I hN hi hx r (λs' I' _=>h s' I') hf
theorem Inv.call' {s':Shared}{ch:List Addr}(I:Inv X pins σ H s)(ho:s'.os=s.os)(u:Un (frs X.stack) ch H H' s.heap s'.heap)(hok:HOk X.prog X.w H' s'.heap)(hg:AllBare s'.gens)
  (hch:∀b∈ch,(b∈X.ex∨X.s₀.heap.objs.size<=b)/\b≠X.env.locals/\(∀x c,X.env.cells.lookup x=some c->c≠b)/\∀p∈X.pn++pins,p.1≠b):Inv X pins σ H' s':=by
 obtain⟨h',g',d',t',o'⟩:=s'
 have e:o'=s.os:=ho
 subst e
 exact I.call (g':=g') (t':=t') (d':=d') u hok hg hch
end
abbrev XK:=Value->Option Addr->Hp->Prop
abbrev St:=List (Option V)
abbrev VK:=V->Hp->Prop
abbrev TE:=St->Hp->VK->Prop
abbrev TT:=St->Hp->(Bool->Hp->Prop)->Prop
abbrev TA:=St->Hp->(List V->Hp->Prop)->Prop
structure Ends where
 nx:St->Hp->Prop
 rt:VK
 bk:St->Hp->Prop:=λ_ _=>False
 ct:St->Hp->Prop:=λ_ _=>False
abbrev TS:=Ends->St->Hp->Prop
def EP (X:Cx)(pins:List (Addr×Obj))(σ:St)(Q:VK)(u:Value)(s':Shared):Prop:=∃v H',Inv X pins σ H' s'/\RelV v u/\Q v H'
def TP (X:Cx)(pins:List (Addr×Obj))(σ:St)(Q:Bool->Hp->Prop)(b:Bool)(s':Shared):Prop:=∃H',Inv X pins σ H' s'/\Q b H'
def AP (X:Cx)(pins:List (Addr×Obj))(σ:St)(Q:List V->Hp->Prop)(us:List Value)(s':Shared):Prop:=∃vs H',Inv X pins σ H' s'/\Vals vs us/\Q vs H'
def SP (X:Cx)(pins:List (Addr×Obj))(D:Ends)(f:Flow)(s':Shared):Prop :=
 match f with
 |.next=>∃σ' H',Inv X pins σ' H' s'/\D.nx σ' H'
 |.brk=>∃σ' H',Inv X pins σ' H' s'/\D.bk σ' H'
 |.cont=>∃σ' H',Inv X pins σ' H' s'/\D.ct σ' H'
 |.ret u=>∃v σ' H',Inv X pins σ' H' s'/\RelV v u/\D.rt v H'
def PE (X:Cx)(e:Expr)(t:TE):Prop :=
 ∀(pins:List (Addr×Obj)) (s:Shared) (σ:St) (H:Hp) (Q:VK),Inv X pins σ H s->t σ H Q->wpAny #[9] X.A (eval e X.env) (EP X pins σ Q) X.xe s
def PT (X:Cx)(e:Expr)(t:TT):Prop :=
 ∀(pins:List (Addr×Obj)) (s:Shared) (σ:St) (H:Hp) (Q:Bool->Hp->Prop),Inv X pins σ H s->t σ H Q->wpAny #[9] X.A (isTrue e X.env (eval e X.env)) (TP X pins σ Q) X.xe s
def PW (X:Cx)(e:Expr)(t:TT):Prop :=
 ∀(whole:Sem Value) (pins:List (Addr×Obj)) (s:Shared) (σ:St) (H:Hp) (Q:Bool->Hp->Prop),Inv X pins σ H s->t σ H Q->wpAny #[9] X.A (isTrue e X.env whole) (TP X pins σ Q) X.xe s
theorem PW.pt {X:Cx}{e:Expr}{t:TT}(h:PW X e t):PT X e t:=h _
def PA (X:Cx)(es:List Expr)(t:TA):Prop :=
 ∀(pos:Pos) (pins:List (Addr×Obj)) (s:Shared) (σ:St) (H:Hp) (Q:List V->Hp->Prop),Inv X pins σ H s->t σ H Q->wpAny #[9] X.A (spliced #[24]) (AP X pins σ Q) X.xe s
def PS (X:Cx)(st:Stmt)(t:TS):Prop :=
 ∀(pins:List (Addr×Obj)) (s:Shared) (σ:St) (H:Hp) (D:Ends),Inv X pins σ H s->t D σ H->wpAny #[9] X.A (exec st X.env) (SP X pins D) X.xe s
def PSs (X:Cx)(st:List Stmt)(t:TS):Prop :=
 ∀(pins:List (Addr×Obj)) (s:Shared) (σ:St) (H:Hp) (D:Ends),Inv X pins σ H s->t D σ H->wpAny #[9] X.A (execs st X.env) (SP X pins D) X.xe s
theorem thn {α:Type}{t:Sem α}{Q Q':α->Shared->Prop}{M:Model}{A:Around}{E:Value->Shared->Prop}{s:Shared}(h:wpAny M A t Q E s)(hQ:∀a s,Q a s->Q' a s):wpAny M A t Q' E s:=wpAny_mono h hQ λ_ _ x=>x
section
variable {X:Cx}
def tVar (i:Nat):TE:=λσ H Q=>∃v,σ[i]?=some (some v)/\Q v H
def tC (v:V):TE:=λ_ H Q=>Q v H
theorem YA {i:Nat}{x:Str}{pos:Pos}(hN:X.N[i]?=some x)(hv:Vis X.env.scope x)(hd:#[20]=false:=by decide) (hcd:(x==("__classdict__" : Str))=false:=by decide):PE X (.Name x pos) (tVar i):=by
 intro pins s σ H Q I h
 obtain⟨v,e,h⟩:=h
 obtain⟨m,hn,hl⟩:=I.loc
 obtain⟨u,r,l⟩:=hl i x v hN e hv
 have fin:EP X pins σ Q u s:=⟨v,H,I,r,h⟩
 rcases l with⟨hk,hm⟩ | ⟨hk,c,hc,hcell⟩
 ·exact wpAny_Name (wpAny_loadName_local I.ok.kind hk hn hm fin) hd
 ·rcases hk with hk | hk
  ·exact wpAny_Name (wpAny_loadName_cell I.ok.kind hk hc hcell fin) hd
  ·exact wpAny_Name (wpAny_loadName_free I.ok.kind hk hc hcell fin hcd) hd
theorem Wn {i j pos}:PE X (.Constant (.int i) j pos) (tC (.int i)):=λ_ _ _ H _ I h=>wpAny_Constant_int ⟨.int i,H,I.tok _,⟨_,rfl⟩,h⟩
theorem zg4 {b j pos}:PE X (.Constant (.bool b) j pos) (tC (.bl b)):=λ_ _ _ H _ I h=>Constant_bool ⟨.bl b,H,I,rfl,h⟩
theorem GJ {j pos}:PE X (.Constant .none j pos) (tC .non):=λ_ _ _ H _ I h=>Constant_none ⟨.non,H,I,rfl,h⟩
theorem qQ {x j pos}:PE X (.Constant (.str x) j pos) (tC (.str x)):=λ_ _ _ H _ I h=>Calls.Constant_str ⟨.str x,H,I.tok _,⟨_,rfl⟩,h⟩
def Gl (X:Cx)(x:Str):Prop:=X.env.kindOf x=some .globalImplicit
theorem x5 {E:Value->Shared->Prop}{pins:List (Addr×Obj)}{s:Shared}{σ:St}{H:Hp}{x:Str}{u:Value}{pos:Pos}{Q:Value->Shared->Prop}(I:Inv X pins σ H s)(hg:Gl X x)(hm:X.mg x=some u)(h:Q u s)
  (hd:#[20]=false:=by decide):wpAny #[9] X.A (eval (.Name x pos) X.env) Q E s :=
 Calls.Name_function_global I.ok.kind hg (Calls.loadGlobal_global (by rw[I.ok.glob];exact I.mod.glob.keeps I.bk) hm h) hd
theorem vG {E:Value->Shared->Prop}{pins:List (Addr×Obj)}{s:Shared}{σ:St}{H:Hp}{x:Str}{u:Value}{pos:Pos}{Q:Value->Shared->Prop}(I:Inv X pins σ H s)(hg:Gl X x)(hm:X.mg x=none)(hv:bootBuiltins x=some u)(h:Q u s)
  (hn:x ≠ "__name__" := by decide) (hd:#[20]=false:=by decide):wpAny #[9] X.A (eval (.Name x pos) X.env) Q E s:=by
 obtain⟨mb,h1,h2⟩:=I.mod.blt
 exact Calls.Name_function_global I.ok.kind hg (Calls.loadGlobal_builtin (by rw[I.ok.glob];exact I.mod.glob.keeps I.bk) hm (by rw[I.ok.blt];exact h1.keeps I.bk) ((h2 x hn).trans hv) h) hd
theorem Vp {x:Str}{v:V}{u:Value}{pos:Pos}(hg:Gl X x)(hm:X.mg x=some u)(r:RelV v u)(hd:#[20]=false:=by decide):PE X (.Name x pos) (tC v) :=
 λ_ _ _ H _ I h=>x5 I hg hm ⟨v,H,I,r,h⟩ hd
theorem Vm {x:Str}{v:V}{u:Value}{pos:Pos}(hg:Gl X x)(hm:X.mg x=none)(hv:bootBuiltins x=some u)(r:RelV v u)(hn:x ≠ "__name__" := by decide) (hd:#[20]=false:=by decide):PE X (.Name x pos) (tC v) :=
 λ_ _ _ H _ I h=>vG I hg hm hv ⟨v,H,I,r,h⟩ hn hd
variable {a b:Expr}{ta tb:TE}{pos:Pos}
def PC (X:Cx)(op:CmpOp)(a b:Expr)(t:TE):Prop :=
 ∀(pins:List (Addr×Obj)) (s:Shared) (σ:St) (H:Hp) (Q:VK),Inv X pins σ H s->t σ H Q ->
  wpAny #[9] X.A (eval a X.env) (λv s₁=>wpAny #[9] X.A (eval b X.env) (λu s₂=>wpAny #[9] X.A (compareOp op v u) (EP X pins σ Q) X.xe s₂) X.xe s₁) X.xe s
def tB (t:TE):TT:=λσ H Q=>t σ H λx H1=>∃c,x=.bl c/\Q c H1
theorem zfm {op:CmpOp}{t:TE}(h:PC X op a b t)(h1:behindInMarks op b=false:=by first | exact nobehind _ #[7] #[7] | rfl):PT X (.Compare a [op] [b] pos) (tB t):=by
 intro pins s σ H Q I hw
 refine wpAny_isTrue_Compare1 (thn (h pins s σ H _ I hw) λv s1 h1=>thn h1 λu s2 h2=>thn h2 λc s3 ⟨x,H1,I1,r1,q1⟩=>?_) h1
 obtain⟨d,rfl,q⟩:=q1
 cases r1
 exact wpAny_truthy_bool ⟨H1,I1,q⟩
variable {tA tB':TT}{rest:List Expr}
def tAnd (t u:TT):TT:=λσ H Q=>t σ H λc H1=>if c=true then u σ H1 Q else Q false H1
def tOr (t u:TT):TT:=λσ H Q=>t σ H λc H1=>if c=true then Q true H1 else u σ H1 Q
def tNot (t:TT):TT:=λσ H Q=>t σ H λc H1=>Q (!c) H1
theorem zeb (ha:PT X a tA):PW X (.BoolOp .And [a] pos) tA:=by
 intro wh pins s σ H Q I h
 refine isTrue_and (thn (ha pins s σ H Q I h) λc s1 e=>?_)
 cases c with
 |true=>exact isTrue_and_nil e
 |false=>exact e
theorem Rl (ha:PT X a tA):PW X (.BoolOp .Or [a] pos) tA:=by
 intro wh pins s σ H Q I h
 refine isTrue_or (thn (ha pins s σ H Q I h) λc s1 e=>?_)
 cases c with
 |false=>exact isTrue_or_nil e
 |true=>exact e
theorem UQ (ha:PT X a tA)(hb:PW X (.BoolOp .And (b::rest) pos) tB'):PW X (.BoolOp .And (a::b::rest) pos) (tAnd tA tB'):=by
 intro wh pins s σ H Q I h
 refine isTrue_and (thn (ha pins s σ H _ I h) λc s1 ⟨H1,I1,q1⟩=>?_)
 cases c with
 |true=>exact hb wh pins s1 σ H1 Q I1 q1
 |false=>exact⟨H1,I1,q1⟩
theorem Gn (ha:PT X a tA)(hb:PW X (.BoolOp .Or (b::rest) pos) tB'):PW X (.BoolOp .Or (a::b::rest) pos) (tOr tA tB'):=by
 intro wh pins s σ H Q I h
 refine isTrue_or (thn (ha pins s σ H _ I h) λc s1 ⟨H1,I1,q1⟩=>?_)
 cases c with
 |true=>exact⟨H1,I1,q1⟩
 |false=>exact hb wh pins s1 σ H1 Q I1 q1
theorem zdq (ha:PT X a tA):PT X (.UnaryOp .Not a pos) (tNot tA):=by
 intro pins s σ H Q I h
 exact isTrue_not (ha pins s σ H (λc H1=>Q (!c) H1) I h)
def tAndV (ta tb:TE):TE:=λσ H Q=>ta σ H λx H1=>∃c,x=.bl c/\if c=true then tb σ H1 Q else Q (.bl false) H1
def tNotV (ta:TE):TE:=λσ H Q=>ta σ H λx H1=>∃c,x=.bl c/\Q (.bl (!c)) H1
theorem QC {op}{t:TE}(h:PE X a t):PE X (.BoolOp op [a] pos) t:=λpins s σ H Q I hw=>BoolOp_one (h pins s σ H Q I hw)
theorem Ky (ha:PE X a ta)(hb:PE X (.BoolOp .And (b::rest) pos) tb):PE X (.BoolOp .And (a::b::rest) pos) (tAndV ta tb):=by
 intro pins s σ H Q I h
 refine BoolOp_and (thn (ha pins s σ H _ I h) λv s1 ⟨x,H1,I1,r1,q1⟩=>?_)
 obtain⟨c,rfl,q1⟩:=q1
 cases r1
 refine wpAny_truthy_bool ?_
 cases c with
 |true=>exact hb pins s1 σ H1 Q I1 q1
 |false=>exact⟨.bl false,H1,I1,rfl,q1⟩
theorem GD (ha:PE X a ta):PE X (.UnaryOp .Not a pos) (tNotV ta):=by
 intro pins s σ H Q I h
 refine UnaryOp_ (thn (ha pins s σ H _ I h) λv s1 ⟨x,H1,I1,r1,q1⟩=>?_)
 obtain⟨c,rfl,q1⟩:=q1
 cases r1
 exact not_of (wpAny_truthy_bool ⟨.bl (!c),H1,I1,rfl,q1⟩)
def tIf (t:TT)(ta tb:TE):TE:=λσ H Q=>t σ H λc H1=>if c=true then ta σ H1 Q else tb σ H1 Q
theorem J7 {c:Expr}(hc:PT X c tA)(ha:PE X a ta)(hb:PE X b tb):PE X (.IfExp c a b pos) (tIf tA ta tb):=by
 intro pins s σ H Q I h
 refine wpAny_IfExp (thn (hc pins s σ H _ I h) λd s1 ⟨H1,I1,q1⟩=>?_)
 cases d with
 |true=>exact ha pins s1 σ H1 Q I1 q1
 |false=>exact hb pins s1 σ H1 Q I1 q1
end
def SqL (K:PySem.W.Frag)(H:Hp)(a:Addr)(xs:List V):Prop :=
 Rd H a (.lst xs) ∨
  ∃(o:Obj) (its:Array Value) (n:Nat),K.lookup a=some o/\o.cls=.type "list" /\ o.dict=none/\o.data=.seq its n/\its.size<=sizeLine/\Vals xs its.toList
def SqT (K:PySem.W.Frag)(H:Hp)(a:Addr)(xs:List V):Prop :=
 Rd H a (.tup xs) ∨
  ∃(o:Obj) (its:Array Value) (n:Nat),K.lookup a=some o/\o.cls=.type "tuple" /\ o.data=.seq its n/\its.size<=sizeLine/\Vals xs its.toList
def absV:Value->Option V
 |.none=>some .non
 |.bool b=>some (.bl b)
 |.int i _=>some (.int i)
 |.str x _=>some (.str x)
 |.bytes b _=>some (.byt b)
 |.float b _=>some (.flt b)
 |.ref a=>some (.ref a)
 |.type n=>some (.ty n)
 |_=>none
theorem RelV.abs {x:V}{u:Value}(r:RelV x u):absV u=some x:=by
 cases x with
 |non=>cases r;rfl
 |bl _=>cases r;rfl
 |int _=>obtain⟨t,rfl⟩:=r;rfl
 |str _=>obtain⟨t,rfl⟩:=r;rfl
 |byt _=>obtain⟨t,rfl⟩:=r;rfl
 |flt _=>obtain⟨t,rfl⟩:=r;rfl
 |ref _=>cases r;rfl
 |ty _=>cases r;rfl
theorem RelV.inj {x y:V}{u:Value}(r:RelV x u)(q:RelV y u):x=y:=Option.some.inj (r.abs.symm.trans q.abs)
theorem Vals.inj:∀ {xs ys:List V} {us:List Value},Vals xs us->Vals ys us->xs=ys
 |_,_,_,.nil,.nil=>rfl
 |_,_,_,.cons r t,.cons r' t'=>by rw[r.inj r',Vals.inj t t']
section
variable {X:Cx}{pins:List (Addr×Obj)}{σ:St}{H:Hp}{s:Shared}{a:Addr}{xs ys:List V}
theorem SqL.of {K:PySem.W.Frag}(h:H a=some (.lst xs)):SqL K H a xs:=.inl (.inl h)
theorem SqT.of {K:PySem.W.Frag}(h:H a=some (.tup xs)):SqT K H a xs:=.inl (.inl h)
theorem Inv.list (I:Inv X pins σ H s)(h:SqL X.K H a xs):∃its:List Value,Vals xs its/\PlainL s.heap a its.toArray/\xs.length<=sizeLine:=by
 rcases h with h | ⟨o,its,n,hk,hc,hd,hs,hz,r⟩
 ·obtain⟨z,its,n,r,e⟩:=h.ok I.hok
  exact⟨its,r,⟨_,n,e,rfl,rfl,rfl⟩,z⟩
 ·refine⟨its.toList,r,⟨o,n,I.kIn a o hk,hc,hd,by simpa using hs⟩,?_⟩
  have e:=r.length
  simp only[Array.length_toList] at e
  omega
theorem Inv.tuple (I:Inv X pins σ H s)(h:SqT X.K H a xs):∃its:List Value,Vals xs its/\IsTup s.heap a its.toArray/\xs.length<=sizeLine:=by
 rcases h with h | ⟨o,its,n,hk,hc,hs,hz,r⟩
 ·obtain⟨z,its,r,p⟩:=h.ok I.hok
  exact⟨its,r,p,z⟩
 ·refine⟨its.toList,r,⟨o,I.kIn a o hk,hc,n,by simpa using hs⟩,?_⟩
  have e:=r.length
  simp only[Array.length_toList] at e
  omega
theorem Inv.list_inj (I:Inv X pins σ H s)(h:SqL X.K H a xs)(h':SqL X.K H a ys):xs=ys:=by
 obtain⟨its,r,⟨o,n,e,_,_,d⟩,_⟩:=I.list h
 obtain⟨its',r',⟨o',n',e',_,_,d'⟩,_⟩:=I.list h'
 rw[e] at e';cases e'
 rw[d] at d'
 injection d' with d1 _
 have:its=its':=by simpa using congrArg Array.toList d1
 subst this
 exact r.inj r'
end
abbrev Cx.wish (X:Cx)(E:Value->Shared->Prop):Cx:={ X with xe:=E }
abbrev Cx.nox (X:Cx):Cx:=X.wish λ_ _=>False
theorem Cx.Ok.wish {X:Cx}(ok:X.Ok)(E:Value->Shared->Prop):(X.wish E).Ok :=
 ⟨ok.mod,ok.kind,ok.glob,ok.blt,ok.above,ok.inj,ok.has,ok.cab,ok.hd,ok.frames,ok.stk,ok.exf,ok.bs,ok.bsz,ok.noex,ok.exfs,ok.funs,ok.frf⟩
theorem Cx.Ok.unwish {X:Cx}{E:Value->Shared->Prop}(ok:(X.wish E).Ok):X.Ok :=
 ⟨ok.mod,ok.kind,ok.glob,ok.blt,ok.above,ok.inj,ok.has,ok.cab,ok.hd,ok.frames,ok.stk,ok.exf,ok.bs,ok.bsz,ok.noex,ok.exfs,ok.funs,ok.frf⟩
section
variable {X:Cx}{pins:List (Addr×Obj)}{σ:St}{H:Hp}{s:Shared}{E:Value->Shared->Prop}
theorem Inv.wish (I:Inv X pins σ H s)(E:Value->Shared->Prop):Inv (X.wish E) pins σ H s:=⟨I.ok.wish E,I.os,I.bare,I.base,I.loc,I.cell,I.free,I.freeC,I.pin,I.hok,I.len⟩
theorem Inv.unwish (I:Inv (X.wish E) pins σ H s):Inv X pins σ H s:=⟨I.ok.unwish,I.os,I.bare,I.base,I.loc,I.cell,I.free,I.freeC,I.pin,I.hok,I.len⟩
theorem SP.unwish {D:Ends}{f:Flow}{s':Shared}(h:SP (X.wish E) pins D f s'):SP X pins D f s':=by
 cases f with
 |next=>obtain⟨σ',H',I,q⟩:=h;exact⟨σ',H',I.unwish,q⟩
 |brk=>obtain⟨σ',H',I,q⟩:=h;exact⟨σ',H',I.unwish,q⟩
 |cont=>obtain⟨σ',H',I,q⟩:=h;exact⟨σ',H',I.unwish,q⟩
 |ret u=>obtain⟨v,σ',H',I,r,q⟩:=h;exact⟨v,σ',H',I.unwish,r,q⟩
theorem PT.nox {e:Expr}{t:TT}(h:PT X.nox e t):PT X e t:=λpins s σ H Q I hw=>
 wpAny_mono (h pins s σ H Q (I.wish _) hw) (λ_ _ ⟨H',I',q⟩=>⟨H',I'.unwish,q⟩) λ_ _ z=>False.elim z
theorem PSs.nox {st:List Stmt}{t:TS}(h:PSs X.nox st t):PSs X st t:=λpins s σ H D I hw=>
 wpAny_mono (h pins s σ H D (I.wish _) hw) (λ_ _ q=>q.unwish) λ_ _ z=>False.elim z
end
section
variable {X:Cx}{st:Stmt}{rest:List Stmt}{t u:TS}{e:Expr}{te:TE}{pos:Pos}
def tNext:TS:=λD σ H=>D.nx σ H
def tSeq (t u:TS):TS:=λD σ H=>t { D with nx:=u D } σ H
theorem K0:PSs X [] tNext:=λ_ _ σ H _ I h=>wpAny_execs_nil ⟨σ,H,I,h⟩
theorem wl (h1:PS X st t)(h2:PSs X rest u):PSs X (st::rest) (tSeq t u):=by
 intro pins s σ H D I h
 refine wpAny_execs_cons (thn (h1 pins s σ H { D with nx:=u D } I h) λf s1 q=>?_)
 cases f with
 |next=>
  obtain⟨σ',H',I',q⟩:=q
  exact h2 pins s1 σ' H' D I' q
 |ret v=>exact q
 |brk=>exact q
 |cont=>exact q
theorem zgs (h1:PS X st t):PSs X [st] t:=by
 intro pins s σ H D I h
 refine wpAny_execs_cons (thn (h1 pins s σ H D I h) λf s1 q=>?_)
 cases f with
 |next=>exact wpAny_execs_nil q
 |ret v=>exact q
 |brk=>exact q
 |cont=>exact q
def tBreak:TS:=λD σ H=>D.bk σ H
theorem GG:PS X (.Break pos) tBreak:=λ_ _ σ H _ I h=>wpAny_Break ⟨σ,H,I,h⟩
theorem Inv.quiet {pins:List (Addr×Obj)}{σ:St}{H:Hp}{s:Shared}(I:Inv X pins σ H s):interactive X.env=false:=by simp[interactive,I.ok.kind]
def tDrop (te:TE):TS:=λD σ H=>te σ H λ_ H1=>D.nx σ H1
theorem wy (he:PE X e te)(hs:swapsWith e none pos.line X.env=pure false:=by rfl):PS X (.Expr e pos) (tDrop te):=by
 intro pins s σ H D I h
 exact wpAny_Expr_any (thn (he pins s σ H _ I h) λv s1 ⟨x,H1,I1,r1,q1⟩=>⟨σ,H1,I1,q1⟩) I.quiet hs
def tRet (te:TE):TS:=λD σ H=>te σ H D.rt
theorem v9 (he:PE X e te):PS X (.Return (some e) pos) (tRet te):=by
 intro pins s σ H D I h
 exact wpAny_Return_some (thn (he pins s σ H _ I h) λv s1 ⟨x,H1,I1,r1,q1⟩=>⟨x,σ,H1,I1,r1,q1⟩)
def tIfS (c:TT)(t u:TS):TS:=λD σ H=>c σ H λb H1=>if b=true then t D σ H1 else u D σ H1
theorem Jl {c:Expr}{a b:List Stmt}{tc:TT}(hc:PT X c tc)(ha:PSs X a t)(hb:PSs X b u):PS X (.If c a b pos) (tIfS tc t u):=by
 intro pins s σ H D I h
 refine wpAny_If (thn (hc pins s σ H _ I h) λd s1 ⟨H1,I1,q1⟩=>?_)
 cases d with
 |true=>exact ha pins s1 σ H1 D I1 q1
 |false=>exact hb pins s1 σ H1 D I1 q1
def tNever:TS:=λ_ _ _=>False
theorem zcw:PS X st tNever:=λ_ _ _ _ _ _ h=>h.elim
end
abbrev TG:=V->St->Hp->(St->Hp->Prop)->Prop
abbrev TGs:=List V->St->Hp->(St->Hp->Prop)->Prop
def PG (X:Cx)(target:Expr)(t:TG):Prop :=
 ∀(pins:List (Addr×Obj)) (s:Shared) (σ:St) (H:Hp) (v:V) (u:Value) (Q:St->Hp->Prop),Inv X pins σ H s->RelV v u->t v σ H Q ->
  wpAny #[9] X.A (assign target X.env u) (λ_ s'=>∃σ' H',Inv X pins σ' H' s'/\Q σ' H') X.xe s
def PGs (X:Cx)(ts:List Expr)(t:TGs):Prop :=
 ∀(pins:List (Addr×Obj)) (s:Shared) (σ:St) (H:Hp) (vs:List V) (us:List Value) (Q:St->Hp->Prop),Inv X pins σ H s->Vals vs us->t vs σ H Q ->
  wpAny #[9] X.A (assignInOrder ((assignEach ts X.env).map (·.2)) us) (λ_ s'=>∃σ' H',Inv X pins σ' H' s'/\Q σ' H') X.xe s
abbrev TSet:=V->V->V->Hp->(Hp->Prop)->Prop
def PSet (X:Cx)(t:TSet):Prop :=
 ∀(pins:List (Addr×Obj)) (s:Shared) (σ:St) (H:Hp) (o i v:V) (ov iv u:Value) (Q:Hp->Prop),Inv X pins σ H s->RelV o ov->RelV i iv->RelV v u->t o i v H Q ->
  wpAny #[9] X.A (setItem ov iv u) (λ_ s'=>∃H',Inv X pins σ H' s'/\Q H') X.xe s
section
variable {X:Cx}{pos:Pos}
def gName (i:Nat):TG:=λv σ H Q=>Q (σ.set i (some v)) H
theorem zm {i:Nat}{x:Str}(hN:X.N.Nodup)(hi:X.N[i]?=some x)(hx:Loc X.env.scope x)(hf:X.fn x=true∨X.env.scope.names.lookup x=some .local:=by first | exact .inl rfl | exact .inr rfl | assumption):PG X (.Name x pos) (gName i):=by
 intro pins s σ H v u Q I r h
 exact wpAny_assign_Name (Yh I hN hi hx r (λs' I'=>⟨_,H,I',h⟩) hf)
def gNil:TGs:=λvs σ H Q=>vs=[]/\Q σ H
def gCons (t:TG)(u:TGs):TGs:=λvs σ H Q=>∃v r,vs=v::r/\t v σ H λσ' H'=>u r σ' H' Q
theorem zI:PGs X [] gNil:=by
 intro pins s σ H vs us Q I r h
 obtain⟨e,h⟩:=h
 subst e
 cases r
 exact assignInOrder_nil ⟨σ,H,I,h⟩
theorem zo {e:Expr}{es:List Expr}{t:TG}{u:TGs}(h1:PG X e t)(h2:PGs X es u)
  (hs:(assignEach (e::es) X.env).map (·.2)=assign e X.env::(assignEach es X.env).map (·.2):=by rfl):PGs X (e::es) (gCons t u):=by
 intro pins s σ H vs us Q I r h
 obtain⟨v,vr,e1,h⟩:=h
 subst e1
 cases r with
 |cons r rr=>
  rw[hs]
  refine assignInOrder_cons (thn (h1 pins s σ H _ _ _ I r h) λ_ s1 ⟨σ1,H1,I1,q1⟩=>?_)
  exact h2 pins s1 σ1 H1 _ _ Q I1 rr q1
def gTup (K:PySem.W.Frag)(n:Nat)(t:TGs):TG:=λv σ H Q=>∃a xs,v=.ref a/\SqT K H a xs/\xs.length=n/\t xs σ H Q
theorem zO {es:List Expr}{k:Nat}{t:TGs}{n:Nat}(hc:X.calm=true)(h:PGs X es t)
  (hn:(assignEach es X.env).length=n:=by rfl) (hst:(assignEach es X.env).findIdx? (·.1)=none:=by rfl):PG X (.Tuple es k pos) (gTup X.K n t):=by
 intro pins s σ H v u Q I r hw
 obtain⟨a,xs,e1,hq,hl,hw⟩:=hw
 subst e1
 cases r
 obtain⟨its,rv,ht,hz⟩:=I.tuple hq
 refine assign_Tuple_tuple (I.ok.hd hc) ht (by simp[hn,<-hl,rv.length]) hst λh' hx=>?_
 have I1:Inv X pins σ H { s with heap:=h' }:=I.kept (t':=s.toks) λb o e=>hx b o (Nat.ne_of_lt (Heap.lt_size e)) e
 exact h pins _ σ H xs _ Q I1 (by simpa using rv) hw
def gSub (to ti:TE)(t:TSet):TG:=λv σ H Q=>to σ H λo H1=>ti σ H1 λi H2=>t o i v H2 λH3=>Q σ H3
theorem GX {o i:Expr}{to ti:TE}{t:TSet}(ho:PE X o to)(hi:PE X i ti)(hs:PSet X t)
  (ha:∀v,assign (.Subscript o i pos) X.env v=(do
   let ov <-holding [v] (eval o X.env)
   let iv <-holding [v,ov] (eval i X.env)
   standAt pos
   holding [v,ov,iv] (setItem ov iv v)
   release [v,ov,iv] []):=by intro _;rfl):PG X (.Subscript o i pos) (gSub to ti t):=by
 intro pins s σ H v u Q I r h
 rw[ha]
 refine wpAny_bind (wpAny_holding (thn (ho pins s σ H _ I h) λov s1 ⟨x,H1,I1,r1,q1⟩=>?_))
 refine wpAny_bind (wpAny_holding (thn (hi pins s1 σ H1 _ I1 q1) λiv s2 ⟨y,H2,I2,r2,q2⟩=>?_))
 refine wpAny_bind (wpAny_standAt (wpAny_bind (wpAny_holding (thn (hs pins s2 σ H2 x y v ov iv u _ I2 r1 r2 r q2) λ_ s3 ⟨H3,I3,q3⟩=>?_))))
 exact wpAny_release ⟨σ,H3,I3,q3⟩
def tAsg (te:TE)(g:TG):TS:=λD σ H=>te σ H λx H1=>g x σ H1 D.nx
theorem uT {tg e:Expr}{te:TE}{g:TG}(he:PE X e te)(hg:PG X tg g)(hs:swapsWithSole [tg] e pos.line X.env=pure false:=by rfl)(hw:swappedStores [tg] e X.env=pure none:=by rfl)
  (h1:(assignEach [tg] X.env).map (·.2)=[assign tg X.env]:=by rfl):PS X (.Assign [tg] e pos) (tAsg te g):=by
 intro pins s σ H D I h
 refine wpAny_Assign_stores (thn (he pins s σ H _ I h) λv s1 ⟨x,H1,I1,r1,q1⟩=>?_) hs hw
 rw[h1]
 exact thn (hg pins s1 σ H1 x v _ I1 r1 q1) λ_ s2 q=>q
theorem wk {i:Nat}{x:Str}{e:Expr}{te:TE}{pos':Pos}(hN:X.N.Nodup)(hi:X.N[i]?=some x)(hx:Loc X.env.scope x)(he:PE X e te)(hs:swapsWith e (some (.Name x pos')) pos.line X.env=pure false:=by rfl)(hf:X.fn x=true∨X.env.scope.names.lookup x=some .local:=by first | exact .inl rfl | exact .inr rfl | assumption) :
  PS X (.Assign [.Name x pos'] e pos) (tAsg te (gName i)):=by
 intro pins s σ H D I h
 refine wpAny_Assign_Name (thn (he pins s σ H _ I h) λv s1 ⟨y,H1,I1,r1,q1⟩=>?_) hs
 exact Yh I1 hN hi hx r1 (λs2 I2=>⟨_,H1,I2,q1⟩) hf
end
section
variable {X:Cx}{pos:Pos}
def tWhile (c:TT)(tb:TS):TS:=λD σ H=>∃W:Nat->St->Hp->Prop,(∃m,W m σ H)/\∀m σ H,W m σ H ->
 c σ H λb H1=>if b=true then ∃N:St->Hp->Prop,(∀σ' H',N σ' H'->∃m',m' < m/\W m' σ' H')/\tb { D with nx:=N,ct:=N,bk:=D.nx } σ H1 else D.nx σ H1
theorem ze7 {c:Expr}{body:List Stmt}{tc:TT}{tb:TS}(hp:PassesOwn #[9] X.A X.env X.xe)(hc:PT X c tc)(hb:PSs X body tb):PS X (.While c body [] pos) (tWhile tc tb):=by
 intro pins s σ H D I h
 obtain⟨W,⟨m0,w0⟩,turn⟩:=h
 refine wpAny_While (codeAny_whileLoop (λn s'=>∃σ' H',Inv X pins σ' H' s'/\W n σ' H') ?_ m0 ⟨σ,H,I,w0⟩)
 rintro n s1 ⟨σ1,H1,I1,w1⟩
 refine wpAny_passesOwn hp (thn (hc pins s1 σ1 H1 _ I1 (turn n σ1 H1 w1)) λb s2 ⟨H2,I2,q2⟩=>?_)
 cases b with
 |true=>
  obtain⟨N,hN,q2⟩:=q2
  rw[if_pos rfl]
  refine wpAny_passesOwn hp (thn (hb pins s2 σ1 H2 _ I2 q2) λf s3 q3=>?_)
  cases f with
  |next=>
   obtain⟨σ3,H3,I3,n3⟩:=q3
   obtain⟨m',hm,w3⟩:=hN σ3 H3 n3
   exact⟨m',hm,σ3,H3,I3,w3⟩
  |cont=>
   obtain⟨σ3,H3,I3,n3⟩:=q3
   obtain⟨m',hm,w3⟩:=hN σ3 H3 n3
   exact⟨m',hm,σ3,H3,I3,w3⟩
  |brk=>exact q3
  |ret v=>exact q3
 |false=>
  rw[if_neg Bool.false_ne_true]
  exact wpAny_execs_nil ⟨σ1,H2,I2,q2⟩
end
structure It where
 go:Nat->Hp->Prop
 yld:Nat->Hp->V->Hp->Prop
 stop:Nat->Hp->Prop
def FpOk (X:Cx)(pins:List (Addr×Obj))(H:Hp)(b:Addr):Prop :=
 H b=none/\b≠X.env.locals/\b∉X.fs/\(b∈X.ex∨X.s₀.heap.objs.size<=b)/\(∀x c,X.env.cells.lookup x=some c->c≠b)/\∀p∈X.pn++pins,p.1≠b
theorem Inv.fpOk {X:Cx}{pins:List (Addr×Obj)}{σ:St}{H H':Hp}{s:Shared}{b:Addr}(I:Inv X pins σ H s)(hb:s.heap.objs.size<=b)(hn:H' b=none):FpOk X pins H' b:=by
 refine⟨hn,Nat.ne_of_gt (Nat.lt_of_lt_of_le I.lt hb),I.nofs hb,.inr (Nat.le_trans I.sz hb),λx c e z=>?_,λp hp z=>?_⟩
 ·obtain⟨v,q⟩:=I.cell x c e
  exact absurd (Nat.lt_of_lt_of_le q.lt (by rw[z];exact hb)) (Nat.lt_irrefl _)
 ·exact absurd (Nat.lt_of_lt_of_le (Heap.lt_size (I.pin p hp).1) (by rw[z];exact hb)) (Nat.lt_irrefl _)
structure Turn (P:Program)(w:World)(K:PySem.W.Frag)(tg:Expr)(J:It)(fp:List Addr)(it:Addr)(tn:Nat->Heap->Prop):Prop where
 mem:it∈fp
 obj:∀i h,tn i h->∀b∈fp,∃o,h.get? b=some o/\∀v,o.data≠.cell v
 keep:∀i h h',tn i h->(∀b∈fp,∀o,h.get? b=some o->h'.get? b=some o)->tn i h'
 item:∀(X:Cx),X.prog=P->X.w=w->X.K=K->X.calm=true->∀(i:Nat) (pins:List (Addr×Obj)) (s:Shared) (σ:St) (H:Hp) (E:Value->Shared->Prop),Inv X pins σ H s->(∀b∈fp,FpOk X pins H b)->tn i s.heap->J.go i H ->
  wpAny (model P w) X.A (pyNext (.ref it)) (λr s1=>∃u,r=some u /\
   wpAny (model P w) X.A (letOwnedTupleGo tg (.ref it) u) (λ_ s2=>∃x H',Inv X pins σ H' s2/\RelV x u/\J.yld i H x H'/\tn (i+1) s2.heap/\∀b∈fp,H' b=none) E s1) E s
 done:∀(X:Cx),X.prog=P->X.w=w->X.K=K->X.calm=true->∀(i:Nat) (pins:List (Addr×Obj)) (s:Shared) (σ:St) (H:Hp) (E:Value->Shared->Prop),Inv X pins σ H s->(∀b∈fp,FpOk X pins H b)->tn i s.heap->J.stop i H ->
  wpAny (model P w) X.A (pyNext (.ref it)) (λr s1=>r=none/\Inv X pins σ H s1) E s
 self:∀(A:Around) (i:Nat) (s:Shared) (Q:Value->Shared->Prop) (E:Value->Shared->Prop),tn i s.heap->Q (.ref it) s->wpAny (model P w) A (pyIter (.ref it)) Q E s
abbrev TI:=St->Hp->(It->Hp->Prop)->Prop
def PIE (X:Cx)(pins:List (Addr×Obj))(σ:St)(tg:Expr)(R:It->Hp->Prop)(itv:Value)(s2:Shared):Prop :=
 ∃(it:Addr) (fp:List Addr) (tn:Nat->Heap->Prop) (J:It) (H':Hp),itv=.ref it/\Inv X pins σ H' s2/\Turn X.prog X.w X.K tg J fp it tn/\tn 0 s2.heap/\(∀b∈fp,FpOk X pins H' b)/\R J H'
def PI (X:Cx)(tg iter:Expr)(wi:TI):Prop :=
 ∀(pins:List (Addr×Obj)) (s:Shared) (σ:St) (H:Hp) (R:It->Hp->Prop),Inv X pins σ H s->wi σ H R ->
  wpAny #[9] X.A (eval iter X.env) (λv s1=>wpAny #[9] X.A (pyIter v) (PIE X pins σ tg R) X.xe s1) X.xe s
theorem QO {M:Model}{A:Around}{E:Value->Shared->Prop}{s:Shared}{tg:Expr}{it:Addr}{u:Value}{o:Obj}{n:String}{vs:Array Value}{Q:Unit->Shared->Prop}(ho:s.heap.get? it=some o)(hc:o.cls=.type n)(hd:o.data=.fields vs)
    (hn:["enumerate","zip","dict_itemiterator","dict_reverseitemiterator","odict_iterator","itertools.zip_longest","itertools.pairwise"].contains n=false) (hQ:Q () s):wpAny M A (letOwnedTupleGo tg (.ref it) u) Q E s:=by
  unfold letOwnedTupleGo
  cases tg<;>first
    |exact wpAny_pure hQ
    | (cases u<;>first
        |exact wpAny_pure hQ
        | (refine wpAny_bind (wpAny_load ho ?_)
           rw[hc,hd]
           show wpAny M A (if (["enumerate","zip","dict_itemiterator","dict_reverseitemiterator","odict_iterator","itertools.zip_longest","itertools.pairwise"].contains n&&vs[0]?==some (rawInt _))=true then _ else _) Q E s
           rw[if_neg (by intro h;rw[hn,Bool.false_and] at h;cases h)]
           exact wpAny_pure hQ))
def Itl (K:PySem.W.Frag)(a:Addr):It :=
 ⟨λi H=>∃xs x,SqL K H a xs/\xs[i]?=some x,λi H x H'=>H'=H/\∀xs,SqL K H a xs->xs[i]?=some x,λi H=>∃xs,SqL K H a xs/\xs.length<=i⟩
def Itr (lo:Int)(n:Nat):It:=⟨λi _=>i < n,λi H x H'=>H'=H/\x=.int (lo+i),λi _=>n<=i⟩
theorem zha {P:Program}{w:World}{K:PySem.W.Frag}{tg:Expr}(a it:Addr):Turn P w K tg (Itl K a) [it] it (λi h=>h.IsListIter it a i) where
 mem:=by simp
 obj:=λi h st b hb=>by
  have e:b=it:=by simpa using hb
  subst e
  obtain⟨o,e,c,d⟩:=st
  exact⟨o,e,λv z=>by rw[d] at z;cases z⟩
 keep:=λi h h' st k=>st.at λo e=>k it (by simp) o e
 item:=by
  intro X hP hw hK hc i pins s σ H E I hf st hg
  subst hP hw hK
  obtain⟨xs,x,hq,hx⟩:=hg
  obtain⟨its,rv,p,hz⟩:=I.list hq
  obtain⟨u,hu,ru⟩:=rv.get hx
  obtain⟨f0,f1,f2,f3,f4,f5⟩:=hf it (by simp)
  refine wpAny_pyNext_list_item st p.isList (x:=u) (by simpa using hu) λh' st' sb=>?_
  have I1:Inv X pins σ H { s with heap:=h' }:=I.turned (t':=s.toks) (λb o hb e=>(sb.2 b hb).trans e) f0 f1 f3 f4 f5
  obtain⟨o,e,c,d⟩:=id st'
  exact⟨u,rfl,QO (s:={ s with heap:=h' }) e c d #[7] ⟨x,H,I1,ru,⟨rfl,λys hy=>by rw[I.list_inj hy hq];exact hx⟩,st',λb hb=>(hf b hb).1⟩⟩
 done:=by
  intro X hP hw hK hc i pins s σ H E I hf st hg
  subst hP hw hK
  obtain⟨xs,hq,hx⟩:=hg
  obtain⟨its,rv,p,hz⟩:=I.list hq
  obtain⟨f0,f1,f2,f3,f4,f5⟩:=hf it (by simp)
  have hl:=rv.length
  exact wpAny_pyNext_list_end (I.ok.hd hc) st p.isList #[18] λh' eb=>⟨rfl,I.turned (t':=s.toks) (λb o hb e=>eb b o hb e) f0 f1 f3 f4 f5⟩
 self:=λ_ _ _ _ _ st h=>wpAny_pyIter_listiter st h
theorem GZ {P:Program}{w:World}{K:PySem.W.Frag}{tg:Expr}(it:Addr)(lo:Int)(n:Nat):Turn P w K tg (Itr lo n) [it] it (λi h=>IsRangeIter h it (lo+(i:Nat) * 1) ((n:Int) - (i:Nat)) 1) where
 mem:=by simp
 obj:=λi h st b hb=>by
  have e:b=it:=by simpa using hb
  subst e
  exact⟨_,st,λv z=>by
   have z':Data.fields _=Data.cell v:=z
   cases z'⟩
 keep:=λi h h' st k=>k it (by simp) _ st
 item:=by
  intro X hP hw hK hc i pins s σ H E I hf st hg
  subst hP hw hK
  obtain⟨f0,f1,f2,f3,f4,f5⟩:=hf it (by simp)
  have W:=Walks.range (prog:=X.prog) (w:=X.w) (I.ok.hd hc) it lo 1 n
  refine W.item i s _ _ hg st λv h' tk hv st' kk=>?_
  obtain⟨t,rfl⟩:=hv
  have I1:Inv X pins σ H { s with heap:=h',toks:=tk }:=I.turned (λb o hb e=>kk b o (by simpa using hb) e) f0 f1 f3 f4 f5
  refine⟨_,rfl,QO (s:={ s with heap:=h',toks:=tk }) (n := "range_iterator") st' rfl rfl #[7] ⟨.int (lo+i),H,I1,⟨t,?_⟩,⟨rfl,rfl⟩,st',λb hb=>(hf b hb).1⟩⟩
  rw[Int.mul_one]
 done:=by
  intro X hP hw hK hc i pins s σ H E I hf st hg
  subst hP hw hK
  obtain⟨f0,f1,f2,f3,f4,f5⟩:=hf it (by simp)
  exact wpAny_pyNext_range_end (I.ok.hd hc) st (by have:n<=i:=hg;omega) λh' eb=>⟨rfl,I.turned (t':=s.toks) (λb o hb e=>eb b o hb e) f0 f1 f3 f4 f5⟩
 self:=λ_ _ _ _ _ st h=>wpAny_pyIter_rangeiter st h
section
variable {X:Cx}{tg:Expr}
def iList (K:PySem.W.Frag)(tl:TE):TI:=λσ H R=>tl σ H λx H1=>∃a,x=.ref a/\(∃xs,SqL K H1 a xs)/\R (Itl K a) H1
theorem ze0 {l:Expr}{tl:TE}(hl:PE X l tl):PI X tg l (iList X.K tl):=by
 intro pins s σ H R I h
 refine thn (hl pins s σ H _ I h) λv s1 ⟨x,H1,I1,r1,q1⟩=>?_
 obtain⟨a,e,⟨xs,hq⟩,q⟩:=q1
 subst e
 cases r1
 obtain⟨its,rv,p,hz⟩:=I1.list hq
 refine wpAny_pyIter_list p.isList ?_
 refine⟨s1.heap.objs.size,[s1.heap.objs.size],_,_,H1,rfl,I1.kept (t':=s1.toks) λb o e=>Heap.get?_push_of_some _ e,zha a _,⟨_,Heap.get?_push_size _ rfl,rfl,rfl⟩,λb hb=>?_,q⟩
 have e:b=s1.heap.objs.size:=by simpa using hb
 subst e
 exact I1.fpOk (Nat.le_refl _) (I1.hok.fresh (Nat.le_refl _))
theorem W3 {pins:List (Addr×Obj)}{σ:St}{H:Hp}{s:Shared}{R:It->Hp->Prop}{E:Value->Shared->Prop}{lo hi:Int}{t u v:Tok}{tk:Nat}(I:Inv X pins σ H s)(h1:-(2 ^ 62)<=lo)(h2:lo < 2 ^ 62)(h3:-(2 ^ 62)<=hi)(h4:hi < 2 ^ 62)
  (q:R (Itr lo (hi - lo).toNat) H):wpAny #[9] X.A (pyIter (.ref s.heap.objs.size)) (PIE X pins σ tg R) E { s with heap:=s.heap.push { cls:=.type "range",data:=.fields #[.int lo t,.int hi u,.int 1 v] },toks:=tk }:=by
 refine wpAny_pyIter_range (IsRange.new ..) (small_one h1 h2 h3 h4) ?_
 have I1:Inv X pins σ H { s with heap:=s.heap.push { cls:=.type "range",data:=.fields #[.int lo t,.int hi u,.int 1 v] },toks:=tk }:=I.kept λb o e=>Heap.get?_push_of_some _ e
 refine⟨(s.heap.push { cls:=.type "range",data:=.fields #[.int lo t,.int hi u,.int 1 v] }).objs.size,[(s.heap.push { cls:=.type "range",data:=.fields #[.int lo t,.int hi u,.int 1 v] }).objs.size],_,_,H,rfl,
  I1.kept (t':=tk) λb o e=>Heap.get?_push_of_some _ e,GZ _ lo (hi - lo).toNat,?_,λb hb=>?_,q⟩
 ·have e1:lo+((0:Nat):Int) * 1=lo:=by simp
  have e2:(((hi - lo).toNat:Nat):Int) - ((0:Nat):Int)=Builtin.Range.rangeSize lo hi 1:=by rw[rangeSize_one];split<;>omega
  show IsRangeIter _ _ (lo+((0:Nat):Int) * 1) ((((hi - lo).toNat:Nat):Int) - ((0:Nat):Int)) 1
  rw[e1,e2]
  exact Heap.get?_push_size _ rfl
 ·have e:b=(s.heap.push { cls:=.type "range",data:=.fields #[.int lo t,.int hi u,.int 1 v] }).objs.size:=by simpa using hb
  subst e
  exact I1.fpOk (Nat.le_refl _) (I1.hok.fresh (Nat.le_refl _))
def iRng1 (ta:TA):TI:=λσ H R=>ta σ H λvs H1=>∃j:Int,vs=[.int j]/\-(2 ^ 62)<=j/\j < 2 ^ 62/\R (Itr 0 j.toNat) H1
def iRng2 (ta:TA):TI:=λσ H R=>ta σ H λvs H1=>∃i j:Int,vs=[.int i,.int j]/\(-(2 ^ 62)<=i/\i < 2 ^ 62/\-(2 ^ 62)<=j/\j < 2 ^ 62)/\R (Itr i (j - i).toNat) H1
theorem zdy {a:Expr}{ta:TA}{p pos:Pos}(hg:Gl X "range") (hm:X.mg "range" = none) (ha:PA X [a] ta) (hs:starEach [a] X.env=[(false,eval a X.env)]:=by rfl):PI X tg (.Call (.Name "range" p) [a] [] pos) (iRng1 ta):=by
 intro pins s σ H R I h
 refine Call_ (vG I hg hm boot_range (PyProof.Rows.callWith_type1 (thn (ha pos pins s σ H _ I h) λus s1 ⟨vs,H1,I1,r1,q1⟩=>?_) hs rfl))
 obtain⟨j,e,q1,q2,q⟩:=q1
 subst e
 cases r1 with
 |cons r rr=>
  cases rr
  obtain⟨t,rfl⟩:=r
  exact call_range_1 (W3 I1 #[1] #[1] q1 q2 (by simpa using q))
theorem zg3 {a b:Expr}{ta:TA}{p pos:Pos}(hg:Gl X "range") (hm:X.mg "range" = none) (ha:PA X [a,b] ta) (hs:starEach [a,b] X.env=[(false,eval a X.env),(false,eval b X.env)]:=by rfl) (hs2:starEach [b] X.env=[(false,eval b X.env)]:=by rfl) :
  PI X tg (.Call (.Name "range" p) [a,b] [] pos) (iRng2 ta):=by
 intro pins s σ H R I h
 refine Call_ (vG I hg hm boot_range (PyProof.Rows.callWith_type1 (thn (ha pos pins s σ H _ I h) λus s1 ⟨vs,H1,I1,r1,q1⟩=>?_) (by rw[hs,hs2]) (by rw[hs2];rfl)))
 obtain⟨i,j,e,⟨q1,q2,q3,q4⟩,q⟩:=q1
 subst e
 cases r1 with
 |cons r rr=>
  cases rr with
  |cons r' rr=>
   cases rr
   obtain⟨t,rfl⟩:=r
   obtain⟨t',rfl⟩:=r'
   exact call_range_2 (W3 I1 q1 q2 q3 q4 q)
def tFor (wi:TI)(g:TG)(tb:TS):TS:=λD σ H=>wi σ H λJ H1=>∃W:Nat->Nat->St->Hp->Prop,(∃m,W 0 m σ H1)/\∀i m σ H,W i m σ H ->
 (J.stop i H/\D.nx σ H)∨(J.go i H/\∃N:St->Hp->Prop,(∀σ' H',N σ' H'->∃m',m' < m/\W (i+1) m' σ' H')/\∀x H',J.yld i H x H'->g x σ H' λσ2 H2=>tb { D with nx:=N,ct:=N,bk:=D.nx } σ2 H2)
def pinsAt (fp:List Addr)(h:Heap):List (Addr×Obj):=fp.filterMap λb=>(h.get? b).map λo=>(b,o)
theorem vQ {fp:List Addr}{h:Heap}{b:Addr}{o:Obj}(hb:b∈fp)(e:h.get? b=some o):(b,o)∈pinsAt fp h:=List.mem_filterMap.mpr ⟨b,hb,by rw[e];rfl⟩
theorem ZI {fp:List Addr}{h:Heap}{p:Addr×Obj}(hp:p∈pinsAt fp h):p.1∈fp/\h.get? p.1=some p.2:=by
 obtain⟨b,hb,e⟩:=List.mem_filterMap.mp hp
 cases q:h.get? b with
 |none=>rw[q] at e;cases e
 |some o=>
  rw[q] at e
  have e':(b,o)=p:=Option.some.inj e
  subst e'
  exact⟨hb,q⟩
theorem Inv.pinned {pins:List (Addr×Obj)}{σ:St}{H:Hp}{s:Shared}{fp:List Addr}(I:Inv X pins σ H s)(hf:∀b∈fp,FpOk X pins H b)(ho:∀b∈fp,∃o,s.heap.get? b=some o/\∀v,o.data≠.cell v):Inv X (pins++pinsAt fp s.heap) σ H s :=
 I.pins_of λp hp=>(List.mem_append.mp hp).elim (λz=>I.pin p (List.mem_append_right _ z)) λz=>by
  obtain⟨hb,e⟩:=ZI z
  obtain⟨f0,f1,f2,_⟩:=hf p.1 hb
  obtain⟨o,e',d⟩:=ho p.1 hb
  rw[e] at e';cases e'
  exact⟨e,f0,f1,f2,d⟩
theorem Inv.unpinned {pins pl:List (Addr×Obj)}{σ:St}{H:Hp}{s:Shared}(I:Inv X (pins++pl) σ H s):Inv X pins σ H s:=I.pins_of λp hp=>I.pin p (List.mem_append_right _ (List.mem_append_left _ hp))
theorem zg8 {iter:Expr}{body:List Stmt}{wi:TI}{g:TG}{tb:TS}{pos:Pos}(hp:PassesOwn #[9] X.A X.env X.xe)(hc:X.calm=true)(hi:PI X tg iter wi)(hg:PG X tg g)(hb:PSs X body tb)
  (hs:∀x,foldedSetIterable iter X.env x=pure x:=by intro _;rfl):PS X (.For tg iter body [] pos) (tFor wi g tb):=by
 intro pins s σ H D I h
 refine wpAny_For (thn (hi pins s σ H _ I h) λv s1 h1=>thn h1 λitv s2 h2=>?_) hs
 obtain⟨it,fp,tn,J,H2,e,I2,T,st2,f2,W,⟨m0,w0⟩,turn⟩:=h2
 subst e
 have stat:∀ {H':Hp},(∀b∈fp,H' b=none)->∀b∈fp,FpOk X pins H' b:=λhn b hb=>⟨hn b hb,(f2 b hb).2⟩
 refine codeAny_forLoop_any (λn s'=>∃i σ' H',Inv X pins σ' H' s'/\tn i s'.heap/\(∀b∈fp,H' b=none)/\W i n σ' H') ?_ m0 ⟨0,σ,H2,I2,st2,λb hb=>(f2 b hb).1,w0⟩
 rintro n s3 ⟨i,σ3,H3,I3,st3,fr3,w3⟩
 rcases turn i n σ3 H3 w3 with⟨stop,qn⟩ | ⟨go,N,hN,step⟩
 ·refine wpAny_passesOwn hp (thn (T.done X rfl rfl rfl hc i pins s3 σ3 H3 X.xe I3 (stat fr3) st3 stop) λr s4 ⟨hr,I4⟩=>?_)
  subst hr
  exact wpAny_execs_nil ⟨σ3,H3,I4,qn⟩
 ·refine wpAny_passesOwn hp (thn (T.item X rfl rfl rfl hc i pins s3 σ3 H3 X.xe I3 (stat fr3) st3 go) λr s4 ⟨u,hr,h4⟩=>?_)
  subst hr
  refine wpAny_passesOwn hp (thn h4 λ_ s5 ⟨x,H5,I5,r5,y5,st5,fr5⟩=>?_)
  have I5':=I5.pinned (stat fr5) (T.obj _ _ st5)
  refine wpAny_passesOwn hp (thn (hg _ s5 σ3 H5 x u _ I5' r5 (step x H5 y5)) λ_ s6 ⟨σ6,H6,I6,q6⟩=>?_)
  refine wpAny_passesOwn hp (thn (hb _ s6 σ6 H6 _ I6 q6) λf s7 q7=>?_)
  have again:∀ {σ7:St} {H7:Hp},Inv X (pins++pinsAt fp s5.heap) σ7 H7 s7->N σ7 H7->∃m,m < n/\∃i σ' H',Inv X pins σ' H' s7/\tn i s7.heap/\(∀b∈fp,H' b=none)/\W i m σ' H':=fun {σ7 H7} I7 n7=>by
   obtain⟨m',hm,w7⟩:=hN σ7 H7 n7
   refine⟨m',hm,i+1,σ7,H7,I7.unpinned,T.keep _ _ _ st5 λb hb o e=>(I7.pin (b,o) (List.mem_append_right _ (List.mem_append_right _ (vQ hb e)))).1,λb hb=>?_,w7⟩
   obtain⟨o,e,d⟩:=T.obj _ _ st5 b hb
   exact (I7.pin (b,o) (List.mem_append_right _ (List.mem_append_right _ (vQ hb e)))).2.1
  cases f with
  |next=>obtain⟨σ7,H7,I7,n7⟩:=q7;exact again I7 n7
  |cont=>obtain⟨σ7,H7,I7,n7⟩:=q7;exact again I7 n7
  |brk=>obtain⟨σ7,H7,I7,q7⟩:=q7;exact⟨σ7,H7,I7.unpinned,q7⟩
  |ret v=>obtain⟨x7,σ7,H7,I7,r7,q7⟩:=q7;exact⟨x7,σ7,H7,I7.unpinned,r7,q7⟩
end
abbrev R2:=V->V->Hp->VK->Prop
def OpR (X:Cx)(f:Value->Value->Sem Value)(r:R2):Prop :=
 ∀(pins:List (Addr×Obj)) (s:Shared) (σ:St) (H:Hp) (x y:V) (v u:Value) (Q:VK),Inv X pins σ H s->RelV x v->RelV y u->r x y H Q ->
  wpAny #[9] X.A (f v u) (EP X pins σ Q) X.xe s
def UnR (X:Cx)(f:Value->Sem Value)(r:V->Hp->VK->Prop):Prop :=
 ∀(pins:List (Addr×Obj)) (s:Shared) (σ:St) (H:Hp) (x:V) (v:Value) (Q:VK),Inv X pins σ H s->RelV x v->r x H Q ->
  wpAny #[9] X.A (f v) (EP X pins σ Q) X.xe s
def CallR (X:Cx)(f:Value)(r:List V->Hp->VK->Prop):Prop :=
 ∀(pins:List (Addr×Obj)) (s:Shared) (σ:St) (H:Hp) (xs:List V) (us:List Value) (Q:VK),Inv X pins σ H s->Vals xs us->r xs H Q ->
  wpAny #[9] X.A (call f us) (EP X pins σ Q) X.xe s
def TruR (X:Cx)(r:V->Hp->(Bool->Hp->Prop)->Prop):Prop :=
 ∀(pins:List (Addr×Obj)) (s:Shared) (σ:St) (H:Hp) (x:V) (v:Value) (Q:Bool->Hp->Prop),Inv X pins σ H s->RelV x v->r x H Q ->
  wpAny #[9] X.A (truthy v) (TP X pins σ Q) X.xe s
def tOp (r:R2)(ta tb:TE):TE:=λσ H Q=>ta σ H λx H1=>tb σ H1 λy H2=>r x y H2 Q
def tUn (r:V->Hp->VK->Prop)(ta:TE):TE:=λσ H Q=>ta σ H λx H1=>r x H1 Q
def rI (C:Int->Int->Prop)(g:Int->Int->V):R2:=λx y H Q=>∃i j,x=.int i/\y=.int j/\C i j/\Q (g i j) H
def rI0 (g:Int->Int->V):R2:=λx y H Q=>∃i j,x=.int i/\y=.int j/\Q (g i j) H
def rU (g:Int->V):V->Hp->VK->Prop:=λx H Q=>∃i,x=.int i/\Q (g i) H
section
variable {X:Cx}{a b c:Expr}{ta tb tc:TE}{pos:Pos}
theorem binT (ha:PE X a ta)(hb:PE X b tb){pins:List (Addr×Obj)}{s:Shared}{σ:St}{H:Hp}{R:V->V->Hp->Prop}(I:Inv X pins σ H s)
  (h:ta σ H λx H1=>tb σ H1 λy H2=>R x y H2) {Q:Value->Shared->Prop} {f:Value->Value->Sem Value}
  (hf:∀v u s2 x y H2,Inv X pins σ H2 s2->RelV x v->RelV y u->R x y H2->wpAny #[9] X.A (f v u) Q X.xe s2) :
  wpAny #[9] X.A (eval a X.env) (λv s₁=>wpAny #[9] X.A (eval b X.env) (λu s₂=>wpAny #[9] X.A (f v u) Q X.xe s₂) X.xe s₁) X.xe s:=by
 refine thn (ha pins s σ H _ I h) λv s1 ⟨x,H1,I1,r1,q1⟩=>?_
 refine thn (hb pins s1 σ H1 _ I1 q1) λu s2 ⟨y,H2,I2,r2,q2⟩=>?_
 exact hf v u s2 x y H2 I2 r1 r2 q2
theorem W8 {op:Operator}{r:R2}(ho:OpR X (binaryOp op) r)(ha:PE X a ta)(hb:PE X b tb):PE X (.BinOp a op b pos) (tOp r ta tb):=by
 intro pins s σ H Q I h
 exact wpAny_BinOp (binT ha hb I h λv u s2 x y H2 I2 rx ry q=>ho pins s2 σ H2 x y v u Q I2 rx ry q)
theorem zft {op:UnaryOp}{r:V->Hp->VK->Prop}(ho:UnR X (unaryOp op) r)(ha:PE X a ta):PE X (.UnaryOp op a pos) (tUn r ta):=by
 intro pins s σ H Q I h
 exact UnaryOp_ (thn (ha pins s σ H _ I h) λv s1 ⟨x,H1,I1,r1,q1⟩=>ho pins s1 σ H1 x v Q I1 r1 q1)
theorem opI {f:Value->Value->Sem Value}{C:Int->Int->Prop}{g:Int->Int->Int}
  (rule:∀(i j:Int) (t u:Tok) (s:Shared) (Q:Value->Shared->Prop) (E:Value->Shared->Prop),C i j->Q (.int (g i j) s.toks) { s with toks:=s.toks+1 }->wpAny #[9] X.A (f (.int i t) (.int j u)) Q E s) :
  OpR X f (rI C λi j=>.int (g i j)):=by
 intro pins s σ H x y v u Q I rx ry h
 obtain⟨i,j,rfl,rfl,hc,q⟩:=h
 obtain⟨t,rfl⟩:=rx
 obtain⟨t',rfl⟩:=ry
 exact rule i j t t' s _ _ hc ⟨.int (g i j),H,I.tok _,⟨_,rfl⟩,q⟩
theorem opI0 {f:Value->Value->Sem Value}{g:Int->Int->Int}
  (rule:∀(i j:Int) (t u:Tok) (s:Shared) (Q:Value->Shared->Prop) (E:Value->Shared->Prop),Q (.int (g i j) s.toks) { s with toks:=s.toks+1 }->wpAny #[9] X.A (f (.int i t) (.int j u)) Q E s) :
  OpR X f (rI0 λi j=>.int (g i j)):=by
 intro pins s σ H x y v u Q I rx ry h
 obtain⟨i,j,rfl,rfl,q⟩:=h
 obtain⟨t,rfl⟩:=rx
 obtain⟨t',rfl⟩:=ry
 exact rule i j t t' s _ _ ⟨.int (g i j),H,I.tok _,⟨_,rfl⟩,q⟩
theorem opB0 {f:Value->Value->Sem Value}{g:Int->Int->Bool}
  (rule:∀(i j:Int) (t u:Tok) (s:Shared) (Q:Value->Shared->Prop) (E:Value->Shared->Prop),Q (.bool (g i j)) s->wpAny #[9] X.A (f (.int i t) (.int j u)) Q E s) :
  OpR X f (rI0 λi j=>.bl (g i j)):=by
 intro pins s σ H x y v u Q I rx ry h
 obtain⟨i,j,rfl,rfl,q⟩:=h
 obtain⟨t,rfl⟩:=rx
 obtain⟨t',rfl⟩:=ry
 exact rule i j t t' s _ _ ⟨.bl (g i j),H,I,rfl,q⟩
def CDiv (i j:Int):Prop:=0 < j/\j < 1073741824
def CPow (i j:Int):Prop:=0<=j/\j<=1000000/\i.natAbs < 2 ^ 64
def CMul (i j:Int):Prop:=(-(2 ^ 64) < i/\i < 2 ^ 64)∨(-(2 ^ 64) < j/\j < 2 ^ 64)
theorem CMul.ok {i j:Int}(h:CMul i j):IntMulOk i j:=by
 rcases h with⟨h1,h2⟩ | ⟨h1,h2⟩
 ·exact .of_left (intBits_le_64 h1 h2)
 ·exact .of_right (intBits_le_64 h1 h2)
theorem zbq (k:Nat):(0:Int)<=2 ^ k:=by
 rw[two_pow_cast]
 exact Int.natCast_nonneg _
theorem op_add:OpR X (binaryOp .Add) (rI0 λi j=>.int (i+j)):=opI0 λ_ _ _ _ _ _ _ q=>add_int q
theorem U8:OpR X (binaryOp .Sub) (rI0 λi j=>.int (i - j)):=opI0 λ_ _ _ _ _ _ _ q=>sub_int q
theorem zf8:OpR X (binaryOp .Mult) (rI CMul λi j=>.int (i * j)):=opI λ_ _ _ _ _ _ _ hc q=>mul_int q hc.ok
theorem Ro:OpR X (binaryOp .FloorDiv) (rI CDiv λi j=>.int (i / j)):=opI λi j _ _ _ _ _ hc q=>by
 have h1:(0:Int) < j:=hc.1
 have h2:j < 1073741824:=hc.2
 exact floordiv_int #[1] (by rw[Int.fdiv_eq_ediv_of_nonneg i #[1]];exact q) (.inl (PyProof.noPylong_small #[1]))
theorem zbx:OpR X (binaryOp .Mod) (rI (λ_ j=>0 < j) λi j=>.int (i % j)):=opI λi j _ _ _ _ _ hc q=>by
 have h1:(0:Int) < j:=hc
 exact mod_int' #[1] (by rw[Int.fmod_eq_emod_of_nonneg i #[1]];exact q)
theorem zf0:OpR X (binaryOp .Pow) (rI CPow λi j=>.int (i ^ j.toNat)):=opI λ_ _ _ _ _ _ _ hc q=>pow_int_small hc.1 hc.2.1 hc.2.2 q
theorem GV:OpR X (binaryOp .RShift) (rI (λ_ j=>0<=j) λi j=>.int (i / 2 ^ j.toNat)):=opI λi j _ _ _ _ _ hc q=>
 rshift_int hc (by rw[Int.fdiv_eq_ediv_of_nonneg i (zbq _)];exact q)
theorem zdb:OpR X (binaryOp .BitAnd) (rI0 λi j=>.int (Builtin.bitAnd i j)):=opI0 λ_ _ _ _ _ _ _ q=>and_int q
theorem unI {f:Value->Sem Value}{g:Int->Int}
  (rule:∀(i:Int) (t:Tok) (s:Shared) (Q:Value->Shared->Prop) (E:Value->Shared->Prop),Q (.int (g i) s.toks) { s with toks:=s.toks+1 }->wpAny #[9] X.A (f (.int i t)) Q E s) :
  UnR X f (rU λi=>.int (g i)):=by
 intro pins s σ H x v Q I rx h
 obtain⟨i,rfl,q⟩:=h
 obtain⟨t,rfl⟩:=rx
 exact rule i t s _ _ ⟨.int (g i),H,I.tok _,⟨_,rfl⟩,q⟩
theorem Rf:UnR X (unaryOp .USub) (rU λi=>.int (-i)):=unI λ_ _ _ _ _ q=>neg_int q
end
def scal:V->V->Bool
 |.non,.non=>true | .non,.int _=>true | .int _,.non=>true | .non,.bl _=>true | .bl _,.non=>true | .non,.str _=>true | .str _,.non=>true
 |.int _,.int _=>true | .bl _,.bl _=>true | .str _,.str _=>true | .byt _,.byt _=>true
 |.int _,.str _=>true | .str _,.int _=>true | .bl _,.str _=>true | .str _,.bl _=>true
 |_,_=>false
section
variable {X:Cx}{a b c:Expr}{ta tb tc:TE}{pos:Pos}
theorem Jv {pins:List (Addr×Obj)}{σ:St}{H:Hp}{s:Shared}{Q:VK}{k k':Bool}(I:Inv X pins σ H s)(q:Q (.bl k) H)(e:k=k'):EP X pins σ Q (.bool k') s:=by
 subst e
 exact⟨.bl k,H,I,rfl,q⟩
theorem yO:OpR X (compareOp .Lt) (rI0 λi j=>.bl (decide (i < j))):=opB0 λ_ _ _ _ _ _ _ q=>lt_int q
theorem xL:OpR X (compareOp .LtE) (rI0 λi j=>.bl (decide (i<=j))):=opB0 λ_ _ _ _ _ _ _ q=>le_int q
theorem wO:OpR X (compareOp .Gt) (rI0 λi j=>.bl (decide (j < i))):=opB0 λ_ _ _ _ _ _ _ q=>gt_int q
theorem YE:OpR X (compareOp .GtE) (rI0 λi j=>.bl (decide (j<=i))):=opB0 λ_ _ _ _ _ _ _ q=>ge_int q
theorem KO:OpR X (compareOp .Is) (λx y H Q=>y=.non/\Q (.bl (decide (x=.non))) H):=by
 intro pins s σ H x y v u Q I rx ry h
 obtain⟨rfl,q⟩:=h
 cases ry
 refine is_none_gen (Jv I q ?_)
 cases x<;>first
  | (cases rx;rfl)
  | (obtain⟨t,rfl⟩:=rx;rfl)
theorem WA:OpR X (compareOp .IsNot) (λx y H Q=>y=.non/\Q (.bl (!decide (x=.non))) H):=by
 intro pins s σ H x y v u Q I rx ry h
 obtain⟨rfl,q⟩:=h
 cases ry
 refine isnot_none_gen (Jv I q ?_)
 cases x<;>first
  | (cases rx;rfl)
  | (obtain⟨t,rfl⟩:=rx;rfl)
theorem OpR.or {f:Value->Value->Sem Value}{r r':R2}(h:OpR X f r)(h':OpR X f r'):OpR X f (λx y H Q=>r x y H Q∨r' x y H Q):=by
 intro pins s σ H x y v u Q I rx ry q
 rcases q with q | q
 ·exact h pins s σ H x y v u Q I rx ry q
 ·exact h' pins s σ H x y v u Q I rx ry q
theorem nomark (b:Expr){op:CmpOp}(h:op≠.In:=by decide)(h2:op≠.NotIn:=by decide):behindInMarks op b=false:=by
 have e1:(op==CmpOp.In)=false:=by cases op<;>first | rfl | exact absurd rfl h
 have e2:(op==CmpOp.NotIn)=false:=by cases op<;>first | rfl | exact absurd rfl h2
 cases b<;>simp[behindInMarks,e1,e2]
theorem zff {op:CmpOp}{r:R2}(ho:OpR X (compareOp op) r)(ha:PE X a ta)(hb:PE X b tb)(hm:behindInMarks op b=false):PE X (.Compare a [op] [b] pos) (tOp r ta tb):=by
 intro pins s σ H Q I h
 exact wpAny_Compare1 (binT ha hb I h λv u s2 x y H2 I2 rx ry q=>ho pins s2 σ H2 x y v u Q I2 rx ry q) hm
def tTest (t:TE):TT:=λσ H Q=>t σ H λx H'=>∃k,x=.bl k/\Q k H'
theorem zei {op:CmpOp}{r:R2}(ho:OpR X (compareOp op) r)(ha:PE X a ta)(hb:PE X b tb)(hm:behindInMarks op b=false):PT X (.Compare a [op] [b] pos) (tTest (tOp r ta tb)):=by
 intro pins s σ H Q I h
 refine wpAny_isTrue_Compare1 (thn (ha pins s σ H _ I h) λv s1 ⟨x,H1,I1,r1,q1⟩=>thn (hb pins s1 σ H1 _ I1 q1) λu s2 ⟨y,H2,I2,r2,q2⟩=>
  thn (ho pins s2 σ H2 x y v u _ I2 r1 r2 q2) λc s3 ⟨z,H3,I3,r3,k,e,q3⟩=>?_) hm
 subst e
 cases r3
 exact wpAny_truthy_bool ⟨H3,I3,q3⟩
def tChain (r r':R2)(ta tb tc:TE):TE:=λσ H Q=>ta σ H λx H1=>tb σ H1 λy H2=>r x y H2 λz H3=>∃k,z=.bl k /\
 (if k=true then tc σ H3 λw' H4=>r' y w' H4 Q else Q (.bl false) H3)
theorem R8 {op op':CmpOp}{r r':R2}(ho:OpR X (compareOp op) r)(ho':OpR X (compareOp op') r')(ha:PE X a ta)(hb:PE X b tb)(hc:PE X c tc)
  (hm:lastMarks [op,op'] [b,c]=false:=by with_unfolding_all rfl):PE X (.Compare a [op,op'] [b,c] pos) (tChain r r' ta tb tc):=by
 intro pins s σ H Q I h
 refine Compare_chain (thn (ha pins s σ H _ I h) λv s1 ⟨x,H1,I1,r1,q1⟩=>chain_link (thn (hb pins s1 σ H1 _ I1 q1) λu s2 ⟨y,H2,I2,r2,q2⟩=>
  thn (ho pins s2 σ H2 x y v u _ I2 r1 r2 q2) λd s3 ⟨z,H3,I3,r3,k,e,q3⟩=>?_)) hm
 subst e
 cases r3
 refine wpAny_truthy_bool ?_
 cases k with
 |false=>exact ite_ff ⟨.bl false,H3,I3,rfl,q3⟩
 |true=>exact ite_tt (chain_last (thn (hc pins s3 σ H3 _ I3 q3) λw' s4 ⟨z',H4,I4,r4,q4⟩=>ho' pins s4 σ H4 y z' u w' Q I4 r2 r4 q4))
def TruV (K:PySem.W.Frag)(x:V)(H:Hp)(k:Bool):Prop :=
 match x with
 |.non=>k=false
 |.bl b=>k=b
 |.int i=>k=(i != 0)
 |.str y=>y.length<=sizeLine/\k=((y.length:Int) != 0)
 |.byt y=>y.size<=sizeLine/\k=((y.size:Int) != 0)
 |.ref p=>(∃xs,SqL K H p xs/\k=!xs.isEmpty)∨(∃xs,SqT K H p xs/\k=!xs.isEmpty)∨∃kvs,H p=some (.dK kvs)/\k=!kvs.isEmpty
 |_=>False
theorem zc0 {κ:Type}{kvs:List (κ×V)}{vs:List (κ×Value)}(r:KV kvs vs):(!vs.isEmpty)=!kvs.isEmpty:=by
 cases r<;>rfl
theorem JS {xs:List V}{its:List Value}(r:Vals xs its):(!its.toArray.isEmpty)=!xs.isEmpty:=by
 cases r<;>simp
theorem line63:(sizeLine:Nat) < 2 ^ 63:=by rw[sizeLine_eq];decide
theorem zgr:TruR X (λx H Q=>∃k,TruV X.K x H k/\Q k H):=by
 intro pins s σ H x v Q I rx h
 obtain⟨k,e,q⟩:=h
 have hl:=line63
 have hs:sizeLine=16777216:=sizeLine_eq
 cases x with
 |non=>
  cases rx
  have e':k=false:=e
  subst e'
  exact truthy_none ⟨H,I,q⟩
 |bl b=>
  cases rx
  have e':k=b:=e
  subst e'
  exact wpAny_truthy_bool ⟨H,I,q⟩
 |int i=>
  obtain⟨t,rfl⟩:=rx
  have e':k=(i != 0):=e
  subst e'
  exact PySem.P.truthy_int ⟨H,I,q⟩
 |str y=>
  obtain⟨t,rfl⟩:=rx
  obtain⟨hy,e'⟩:y.length<=sizeLine/\k=((y.length:Int) != 0):=e
  subst e'
  exact PySem.P.truthy_str #[1] ⟨H,I.tok _,q⟩
 |byt y=>
  obtain⟨t,rfl⟩:=rx
  obtain⟨hy,e'⟩:y.size<=sizeLine/\k=((y.size:Int) != 0):=e
  subst e'
  exact PySem.W.truthy_bytes #[1] ⟨H,I.tok _,q⟩
 |ref p=>
  cases rx
  have e':(∃xs,SqL X.K H p xs/\k=!xs.isEmpty)∨(∃xs,SqT X.K H p xs/\k=!xs.isEmpty)∨∃kvs,H p=some (.dK kvs)/\k=!kvs.isEmpty:=e
  rcases e' with⟨xs,hx,e'⟩ | ⟨xs,hx,e'⟩ | ⟨kvs,hx,e'⟩
  ·subst e'
   obtain⟨its,r,pl,hz⟩:=I.list hx
   have hlen:=r.length
   exact wpAny_truthy_list pl.isList (by simp only[List.size_toArray];omega) ⟨H,I.tok _,by rw[JS r];exact q⟩
  ·subst e'
   obtain⟨its,r,pl,hz⟩:=I.tuple hx
   have hlen:=r.length
   exact truthy_tuple pl (by simp only[List.size_toArray];omega) ⟨H,I.tok _,by rw[JS r];exact q⟩
  ·subst e'
   obtain⟨hz,hS,vs,r,m⟩:kvs.length<=sizeLine/\(p==sysModules)=false/\∃vs,KV kvs vs/\s.heap.DictOf (zP X.prog X.w) p vs:=I.hok p _ hx
   have hlen:kvs.length=vs.length:=Paired.length r
   exact wpAny_truthy_dict hS m #[1] ⟨H,I.tok _,by rw[zc0 r];exact q⟩
 |_=>exact (show False from e).elim
theorem UR (ha:PE X a ta)(he:∀whole,isTrue a X.env whole=(do let v <-whole;standAt a.pos;holding [v] (truthy v))) :
  PT X a (λσ H Q=>ta σ H λx H'=>∃k,TruV X.K x H' k/\Q k H'):=by
 intro pins s σ H Q I h
 exact isTrue_plain (thn (ha pins s σ H _ I h) λv s1 ⟨x,H1,I1,r1,q1⟩=>zgr pins s1 σ H1 x v Q I1 r1 q1) (he _)
theorem U9:OpR X (binaryOp .Add) (λx y H Q=>∃i j,x=.str i/\y=.str j/\i.length+j.length<=sizeLine/\Q (.str (i++j)) H):=by
 intro pins s σ H x y v u Q I rx ry h
 obtain⟨i,j,rfl,rfl,hz,q⟩:=h
 obtain⟨t,rfl⟩:=rx
 obtain⟨t',rfl⟩:=ry
 exact add_str (λt' tk=>⟨.str (i++j),H,I.tok _,⟨_,rfl⟩,q⟩) hz
theorem vals1 {x:V}{us:List Value}(r:Vals [x] us):∃u,us=[u]/\RelV x u:=by
 cases r with
 |cons r1 r2=>cases r2;exact⟨_,rfl,r1⟩
theorem vals2 {x y:V}{us:List Value}(r:Vals [x,y] us):∃u w',us=[u,w']/\RelV x u/\RelV y w':=by
 cases r with
 |cons r1 r2=>
  cases r2 with
  |cons r3 r4=>cases r4;exact⟨_,_,rfl,r1,r3⟩
theorem zew (hc:X.calm=true):CallR X (.builtin "max") (λxs H Q=>∃i j,xs=[.int i,.int j]/\Q (.int (if j > i then j else i)) H):=by
 intro pins s σ H xs us Q I r h
 obtain⟨i,j,rfl,q⟩:=h
 obtain⟨u,w',rfl,⟨t,rfl⟩,⟨t',rfl⟩⟩:=vals2 r
 refine max_two_ints (I.ok.hd hc) λh' tk k=>⟨_,H,I.kept k,?_,q⟩
 by_cases hj:j > i
 ·rw[if_pos hj,if_pos hj];exact⟨_,rfl⟩
 ·rw[if_neg hj,if_neg hj];exact⟨_,rfl⟩
theorem zdz (hc:X.calm=true):CallR X (.builtin "min") (λxs H Q=>∃i j,xs=[.int i,.int j]/\Q (.int (if j < i then j else i)) H):=by
 intro pins s σ H xs us Q I r h
 obtain⟨i,j,rfl,q⟩:=h
 obtain⟨u,w',rfl,⟨t,rfl⟩,⟨t',rfl⟩⟩:=vals2 r
 refine min_two_ints (I.ok.hd hc) λh' tk k=>⟨_,H,I.kept k,?_,q⟩
 by_cases hj:j < i
 ·rw[if_pos hj,if_pos hj];exact⟨_,rfl⟩
 ·rw[if_neg hj,if_neg hj];exact⟨_,rfl⟩
theorem WQ:CallR X (.type "int") (λxs H Q=>(∃i,xs=[.int i]/\Q (.int i) H)∨∃k,xs=[.bl k]/\Q (.int (if k then 1 else 0)) H):=by
 intro pins s σ H xs us Q I r h
 rcases h with⟨i,rfl,q⟩ | ⟨k,rfl,q⟩
 ·obtain⟨u,rfl,t,rfl⟩:=vals1 r
  exact call_int_int ⟨.int i,H,I,⟨_,rfl⟩,q⟩
 ·obtain⟨u,rfl,r1⟩:=vals1 r
  cases r1
  exact call_int_bool ⟨.int (if k then 1 else 0),H,I.tok _,⟨_,rfl⟩,q⟩
def LenV (K:PySem.W.Frag)(x:V)(H:Hp)(n:Nat):Prop :=
 match x with
 |.str y=>y.length<=sizeLine/\n=y.length
 |.byt y=>y.size<=sizeLine/\n=y.size
 |.ref p=>(∃xs,SqL K H p xs/\n=xs.length)∨∃xs,SqT K H p xs/\n=xs.length
 |_=>False
theorem ze9:CallR X (.builtin "len") (λxs H Q=>∃x n,xs=[x]/\LenV X.K x H n/\Q (.int n) H):=by
 intro pins s σ H xs us Q I r h
 obtain⟨x,n,rfl,e,q⟩:=h
 obtain⟨u,rfl,rx⟩:=vals1 r
 have hl:=line63
 have hs:sizeLine=16777216:=sizeLine_eq
 cases x with
 |str y=>
  obtain⟨t,rfl⟩:=rx
  obtain⟨hy,e'⟩:y.length<=sizeLine/\n=y.length:=e
  subst e'
  exact len_str #[1] ⟨.int _,H,I.tok _,⟨_,rfl⟩,q⟩
 |byt y=>
  obtain⟨t,rfl⟩:=rx
  obtain⟨hy,e'⟩:y.size<=sizeLine/\n=y.size:=e
  subst e'
  exact PySem.W.len_bytes #[1] ⟨.int _,H,I.tok _,⟨_,rfl⟩,q⟩
 |ref p=>
  cases rx
  have e':(∃xs,SqL X.K H p xs/\n=xs.length)∨∃xs,SqT X.K H p xs/\n=xs.length:=e
  rcases e' with⟨xs,hx,e'⟩ | ⟨xs,hx,e'⟩
  ·subst e'
   obtain⟨its,r',pl,hz⟩:=I.list hx
   have hlen:=r'.length
   exact Calls.call_len_list pl.isList (by simp only[List.size_toArray];omega) ⟨.int xs.length,H,I.tok _,⟨_,by simp only[List.size_toArray];rw[hlen]⟩,q⟩
  ·subst e'
   obtain⟨its,r',pl,hz⟩:=I.tuple hx
   have hlen:=r'.length
   exact len_tuple pl (by simp only[List.size_toArray];omega) ⟨.int xs.length,H,I.tok _,⟨_,by simp only[List.size_toArray];rw[hlen]⟩,q⟩
 |_=>exact (show False from e).elim
end
structure ObjM (h:Heap)(x dx C:Addr)(mA:Str->Option Value):Prop where
 obj:h.get? x=some (instObj C dx)
 ns:h.Ns1 dx mA
 ne:dx≠x
theorem zfo {h:Heap}{dx:Addr}{mA:Str->Option Value}(n:h.Ns1 dx mA):∃od,h.get? dx=some od/\∀name,PySem.W.lookIn name od=some (mA name):=by
 obtain⟨o,es,ep,ho,hd,hk,_,hm⟩:=n
 refine⟨o,ho,λname=>?_⟩
 have e:=hm name
 unfold nsFind findBy at e
 rw[<-Array.find?_toList] at e
 unfold PySem.W.lookIn
 rw[hd]
 dsimp only
 split
 ·rename_i y q
  rw[q] at e
  exact congrArg some e
 ·rename_i q
  rw[q] at e
  have a:es.toList.any (·.refKey)=false:=by
   rw[List.any_eq_false]
   intro y hy
   obtain⟨z,t,hkey⟩:=hk y (Array.mem_toList_iff.mp hy)
   simp[DictEntry.refKey,hkey]
  have a':¬es.toList.any (·.refKey)=true:=by rw[a];exact Bool.false_ne_true
  rw[if_neg a']
  exact congrArg some e
theorem ObjM.look {h:Heap}{x dx C:Addr}{mA:Str->Option Value}(I:ObjM h x dx C mA):∃od,InstAt h x (instObj C dx) C (some od)/\∀name,PySem.W.lookIn name od=some (mA name) :=
 let ⟨od,ho,hl⟩:=zfo I.ns
 ⟨od,⟨I.obj,rfl,rfl,ho⟩,hl⟩
section
variable {prog:Program}{w:World}{A:Around}{E:Value->Shared->Prop}{s:Shared}{K:PySem.W.Frag}{x dx C f:Addr}{mA:Str->Option Value}{name:Str}{v:Value}
theorem Gp {expr:Bool}{Q:Value->Shared->Prop}(X:K.In s.heap)(I:ObjM s.heap x dx C mA)(hg:plainGet K C name=true)(hh:hasDictIn K C=true)
  (ha:findIn K (.ref C) name=some none) (hv:mA name=some v) (hv':PySem.W.handedIn v=true) (h:Q v { s with toks:=s.toks+1 }) :
  wpAny #[19] A (getAttr (.ref x) name expr) Q E s:=by
 obtain⟨od,J,hl⟩:=I.look
 exact PySem.W.get_value X J (PySem.W.plainGet_of hg).1 (PySem.W.findObj_own hh ha rfl (by rw[hl,hv])) hv' h
theorem zae {pl:Sem Bool}{Q:Value×List Value->Shared->Prop}(X:K.In s.heap)(I:ObjM s.heap x dx C mA)(hg:plainGet K C name=true)
  (hf:findIn K (.ref C) name=some (some (.ref f))) (ht:PySem.W.isFn K (.ref f)=true) (hv:mA name=none) (h:Q (.ref f,[.ref x]) s) :
  wpAny #[19] A (getMethod (.ref x) name pl) Q E s:=by
 obtain⟨od,J,hl⟩:=I.look
 exact PySem.W.method_fn X J (PySem.W.plainGet_of hg).1 (PySem.W.plainGet_of hg).2 hf (beq_iff_eq.mp ht) (by show (PySem.W.lookIn name od).map (·.isSome)=some false;rw[hl,hv];rfl) h
theorem zhk {ns:List Str}{Q:Unit->Shared->Prop}(X:K.In s.heap)(I:ObjM s.heap x dx C mA)
  (hs:findIn K (.ref C) "__setattr__" = some (some (.builtin "object.__setattr__"))) (hp:PySem.W.plainOver K C=true) (ht:takerIn K C name=some none) (hh:hasDictIn K C=true)
  (hw:PySem.Within mA ns) (hsz:ns.length<=sizeLine)
  (h:∀h',ObjM h' x dx C (λy=>if y=name then some v else mA y)->Heap.SameBut dx s.heap h'->Q () { s with heap:=h',toks:=s.toks+2 }) :
  wpAny #[19] A (setAttr (.ref x) name v) Q E s:=by
 obtain⟨od,J,hl⟩:=I.look
 refine PySem.W.set_plain X J hs (PySem.W.osa_open (s:={ s with toks:=s.toks+1 }) (r:=none) X J hp ht λb=>?_)
 obtain⟨cd,hc,hd'⟩:=PySem.W.any_some hh
 have hx:s.heap.get? x=some ⟨.ref C,some dx,.plain,#[]⟩:=I.obj
 refine wpAny_bind (wpAny_pure (wpAny_bind (wpAny_bind (wpAny_loadPart hx (wpAny_bind (PySem.W.Looks.here (s:={ s with toks:=s.toks+1 }) (PySem.W.looks_clsIn X hc) ?_))))))
 rw[hd']
 refine wpAny_pure (a:=some dx) (wpAny_bind (wpAny_pure (wpAny_bind ?_)))
 refine wpAny_nsSet1 (s:={ s with toks:=s.toks+1 }) I.ns λh' hn2 hs2=>?_
 obtain⟨oD,esD,epD,hoD,hdD,hcD⟩:=hn2.count (PySem.Within.cons name v hw)
 refine wpAny_bind (wpAny_lookBehind hoD (by rw[hdD];exact pastItsLine_dict (Nat.le_trans hcD (by rw[List.length_cons];omega))) ?_)
 exact wpAny_pure (h _ ⟨(hs2.2 _ (Ne.symm I.ne)).trans I.obj,hn2,I.ne⟩ hs2)
theorem Uq {R:Result->Shared->Prop}{vs:List Value}{kw:List (Str×Value)}(X:K.In s.heap)(hm:PySem.W.makesIn K C=true)
  (hi:findIn K (.ref C) "__init__" = some (some (.ref f))) (hf:PySem.W.typeIn K (.ref f)=some (.type "function"))
  (h:codeAny #[19] (A.under (.builtin "type.__call__" ⟨.ref C::vs,kw⟩)) (.call (.ref f) ⟨.ref (s.heap.objs.size+1)::vs,kw⟩) (PySem.W.InitBack (s.heap.objs.size+1) R)
   { s with heap:=(s.heap.push emptyDict).push (instObj C s.heap.objs.size) }) :
  codeAny #[19] A (.call (.ref C) ⟨vs,kw⟩) R s:=by
 obtain⟨hh,g,d,t,os⟩:=s
 exact PySem.W.make_core (PySem.W.makes_of X hm) (looks_findIn X hi) (λself=>PySem.W.bind_fn X self hf) (.inl rfl) h
end
def putF (f:Str)(v:V):List (Str×V)->List (Str×V)
 | []=>[(f,v)]
 | (g,x)::r=>if g=f then (g,v)::r else (g,x)::putF f v r
theorem WH (f g:Str)(v:V):∀fs:List (Str×V),(putF f v fs).lookup g=if g=f then some v else fs.lookup g
 | []=>by
  show List.lookup g [(f,v)]=_
  by_cases h:g=f
  ·have hb:(g==f)=true:=beq_iff_eq.mpr h
   simp only[List.lookup,hb,if_pos h]
  ·have hb:(g==f)=false:=beq_eq_false_iff_ne.mpr h
   simp only[List.lookup,hb,if_neg h]
 | (k,x)::r=>by
  have ih:=WH f g v r
  rw[show putF f v ((k,x)::r)=(if k=f then (k,v)::r else (k,x)::putF f v r) from rfl]
  by_cases hk:k=f
  ·rw[if_pos hk]
   by_cases h:g=k
   ·have hb:(g==k)=true:=beq_iff_eq.mpr h
    simp only[List.lookup,hb,if_pos (h.trans hk)]
   ·have hb:(g==k)=false:=beq_eq_false_iff_ne.mpr h
    simp only[List.lookup,hb,if_neg (λe:g=f=>h (e.trans hk.symm))]
  ·rw[if_neg hk]
   by_cases h:g=k
   ·have hb:(g==k)=true:=beq_iff_eq.mpr h
    simp only[List.lookup,hb,if_neg (λe:g=f=>hk (h.symm.trans e))]
   ·have hb:(g==k)=false:=beq_eq_false_iff_ne.mpr h
    simp only[List.lookup,hb]
    exact ih
theorem uN (f:Str)(v:V):∀fs:List (Str×V),f∈(putF f v fs).map (·.1)/\∀g,g∈fs.map (·.1)->g∈(putF f v fs).map (·.1)
 | []=>⟨by simp[putF],λg h=>by simp at h⟩
 | (k,x)::r=>by
  obtain⟨i1,i2⟩:=uN f v r
  rw[show putF f v ((k,x)::r)=(if k=f then (k,v)::r else (k,x)::putF f v r) from rfl]
  by_cases hk:k=f
  ·rw[if_pos hk]
   subst hk
   exact⟨by simp,λg h=>by simpa using h⟩
  ·rw[if_neg hk]
   refine⟨?_,λg h=>?_⟩
   ·rw[List.map_cons]
    exact List.mem_cons_of_mem _ i1
   ·rw[List.map_cons] at h ⊢
    rcases List.mem_cons.mp h with e | e
    ·exact List.mem_cons.mpr (.inl e)
    ·exact List.mem_cons_of_mem _ (i2 g e)
theorem KY (f:Str)(v:V):∀fs:List (Str×V),(putF f v fs).length<=fs.length+1
 | []=>by simp[putF]
 | (k,x)::r=>by
  have ih:=KY f v r
  rw[show putF f v ((k,x)::r)=(if k=f then (k,v)::r else (k,x)::putF f v r) from rfl]
  by_cases hk:k=f
  ·rw[if_pos hk,List.length_cons,List.length_cons];omega
  ·rw[if_neg hk,List.length_cons,List.length_cons];omega
theorem RelO.some_of {v:V}{o:Option Value}(r:RelO (some v) o):∃u,o=some u/\RelV v u:=by
 cases o with
 |none=>exact (show False from r).elim
 |some u=>exact⟨u,rfl,r⟩
theorem RelO.none_of {o:Option Value}(r:RelO none o):o=none:=by
 cases o with
 |none=>rfl
 |some u=>exact (show False from r).elim
theorem UB {v:V}{u:Value}(r:RelV v u):PySem.W.handedIn u=true:=by
 cases v with
 |non=>cases (show u=Value.none from r);rfl
 |bl b=>cases (show u=Value.bool b from r);rfl
 |int i=>obtain⟨t,e⟩:=(show ∃t,u=Value.int i t from r);cases e;rfl
 |str x=>obtain⟨t,e⟩:=(show ∃t,u=Value.str x t from r);cases e;rfl
 |byt b=>obtain⟨t,e⟩:=(show ∃t,u=Value.bytes b t from r);cases e;rfl
 |flt b=>obtain⟨t,e⟩:=(show ∃t,u=Value.float b t from r);cases e;rfl
 |ref a=>cases (show u=Value.ref a from r);rfl
 |ty n=>cases (show u=Value.type n from r);rfl
section
variable {P:Program}{w:World}{H H':Hp}{h h':Heap}{a C dx:Addr}{fs fs':List (Str×V)}
theorem kU (hok:HOk P w H h)(e:H a=some (.ins C dx fs)):∃mA,ObjM h a dx C mA/\(∀f,RelO (fs.lookup f) (mA f))/\PySem.Within mA (fs.map (·.1))/\fs.length<=1000/\H dx=some (.own a):=by
 obtain⟨d,z,ne,ob,mA,n,r,q⟩:=(show ObjOk P w H h a (.ins C dx fs) from hok a _ e)
 exact⟨mA,⟨ob,n,ne⟩,r,q,z,d⟩
end
structure Cls (K:PySem.W.Frag)(C:Addr):Prop where
 pg:plainGet K C Str.empty=true
 hd:hasDictIn K C=true
 po:PySem.W.plainOver K C=true
 sa:findIn K (.ref C) "__setattr__" = some (some (.builtin "object.__setattr__"))
theorem Cls.get {K:PySem.W.Frag}{C:Addr}(c:Cls K C)(f:Str):plainGet K C f=true:=c.pg
def NoAttr (K:PySem.W.Frag)(C:Addr)(f:Str):Prop:=findIn K (.ref C) f=some none
theorem NoAttr.taker {K:PySem.W.Frag}{C:Addr}{f:Str}(n:NoAttr K C f):takerIn K C f=some none:=by
 unfold takerIn
 rw[show findIn K (.ref C) f=some none from n]
 rfl
structure Con (K:PySem.W.Frag)(C:Addr)(f:Str)(v:V)(u:Value):Prop where
 at_:findIn K (.ref C) f=some (some u)
 rel:RelV v u
 get:PySem.W.specialIn K u "__get__" = some none
 cp:PySem.W.copiedNames.contains f=false
structure Meth (K:PySem.W.Frag)(C:Addr)(m:Str)(f:Addr):Prop where
 at_:findIn K (.ref C) m=some (some (.ref f))
 fn:PySem.W.isFn K (.ref f)=true
 kp:keepIn K (.ref f)=true
section
variable {X:Cx}{pins:List (Addr×Obj)}{σ:St}{H:Hp}{s:Shared}{a C dx:Addr}{fs:List (Str×V)}{f:Str}{v:V}{A:Around}{E:Value->Shared->Prop}
theorem zhb {b:Bool}{Q:Value->Shared->Prop}(I:Inv X pins σ H s)(e:H a=some (.ins C dx fs))(c:Cls X.K C)(n:NoAttr X.K C f)(l:fs.lookup f=some v)
  (h:∀u s',Inv X pins σ H s'->RelV v u->Q u s'):wpAny #[9] A (getAttr (.ref a) f b) Q E s:=by
 obtain⟨mA,O,r,_,_,_⟩:=kU I.hok e
 obtain⟨u,hu,ru⟩:=RelO.some_of (v:=v) (o:=mA f) (by rw[<-l];exact r f)
 exact Gp I.kIn O (c.get f) c.hd n hu (UB ru) (h u _ (I.tok _) ru)
theorem WB {m:Str}{g:Addr}{pl:Sem Bool}{Q:Value×List Value->Shared->Prop}(I:Inv X pins σ H s)(e:H a=some (.ins C dx fs))(c:Cls X.K C)(k:Meth X.K C m g)(l:fs.lookup m=none)
  (h:Q (.ref g,[.ref a]) s):wpAny #[9] A (getMethod (.ref a) m pl) Q E s:=by
 obtain⟨mA,O,r,_,_,_⟩:=kU I.hok e
 have hn:mA m=none:=RelO.none_of (by rw[<-l];exact r m)
 exact zae I.kIn O (c.get m) k.at_ k.fn hn h
theorem zah {y:V}{u:Value}{Q:Unit->Shared->Prop}(I:Inv X pins σ H s)(e:H a=some (.ins C dx fs))(c:Cls X.K C)(n:NoAttr X.K C f)(hl:fs.length < 1000)(ry:RelV y u)
  (h:∀s',Inv X pins σ (upd H a (.ins C dx (putF f y fs))) s'->Q () s'):wpAny #[9] A (setAttr (.ref a) f u) Q E s:=by
 obtain⟨mA,O,r,wi,_,ho⟩:=kU I.hok e
 have hz:(fs.map (·.1)).length<=sizeLine:=by rw[List.length_map,sizeLine_eq];omega
 refine zhk I.kIn O c.sa c.po n.taker c.hd wi hz λh' O' sb=>h _ ?_
 have hd:∃o,h'.get? dx=some o:=let ⟨o,_,_,e',_⟩:=O'.ns;⟨o,e'⟩
 refine I.write (x:=a) (e:=dx) (by rw[e];exact True.intro) (.inr ho) (λb q hb z=>(sb.2 b hb).trans z) hd ?_
 refine⟨by rw[zr O.ne];exact ho,?_,O.ne,O'.obj,_,O'.ns,λg=>?_,λg hg=>?_⟩
 ·have:=KY f y fs;omega
 ·show RelO ((putF f y fs).lookup g) (if g=f then some u else mA g)
  rw[WH]
  by_cases q:g=f
  ·rw[if_pos q,if_pos q];exact ry
  ·rw[if_neg q,if_neg q];exact r g
 ·by_cases q:g=f
  ·rw[q];exact (uN f y fs).1
  ·refine (uN f y fs).2 g (wi g λz=>hg ?_)
   show (if g=f then some u else mA g)=none
   rw[if_neg q];exact z
theorem Inv.made (I:Inv X pins σ H s):Inv X pins σ (upd (upd H s.heap.objs.size (.own (s.heap.objs.size+1))) (s.heap.objs.size+1) (.ins C s.heap.objs.size []))
  { s with heap:=(s.heap.push emptyDict).push (instObj C s.heap.objs.size) }:=by
 have e1:(s.heap.push emptyDict).get? s.heap.objs.size=some emptyDict:=Heap.get?_push_size s.heap rfl
 have e2:((s.heap.push emptyDict).push (instObj C s.heap.objs.size)).get? (s.heap.objs.size+1)=some (instObj C s.heap.objs.size):=by
  have:=Heap.get?_push_size (s.heap.push emptyDict) (o:=instObj C s.heap.objs.size) rfl
  rwa [Heap.size_push] at this
 have e3:(s.heap.push emptyDict).Ns s.heap.objs.size (λ_=>none):=⟨emptyDict,#[],_,e1,rfl,(λe he=>absurd he (by simp)),λ_=>rfl⟩
 have I1:=I.laid (a:=s.heap.objs.size) (o:=.own (s.heap.objs.size+1)) (h':=s.heap.push emptyDict) (t':=s.toks) (λb u q=>Heap.get?_push_of_some _ q) (Nat.le_refl _) ⟨_,e1⟩
 refine I1.laid (a:=s.heap.objs.size+1) (o:=.ins C s.heap.objs.size []) (t':=s.toks) (λb u q=>Heap.get?_push_of_some _ q) (Nat.le_of_eq (Heap.size_push _ _)) ?_
 have ne:s.heap.objs.size≠s.heap.objs.size+1:=Nat.ne_of_lt (Nat.lt_succ_self _)
 refine⟨by rw[zr ne,zy],Nat.zero_le _,ne,e2,λ_=>none,(Heap.Ns1.of_empty e3).at λo q=>Heap.get?_push_of_some _ q,λ_=>True.intro,λy hy=>absurd rfl hy⟩
theorem RB {prog:Program}{w:World}{env:Env}{e:Expr}{f:Str}{pos:Pos}{s:Shared}{Q:Value->Shared->Prop}(hb:attributeBase e f env (eval e env)=eval e env)
  (h:wpAny #[19] A (eval e env) (λo s₁=>wpAny #[19] A (getAttr o f true) Q E s₁) E s):wpAny #[19] A (eval (.Attribute e f pos) env) Q E s :=
 Attribute_any_ h (by rw[arm_eval_Attribute,hb])
end
def tFld (K:PySem.W.Frag)(ta:TE)(f:Str):TE:=λσ H Q=>ta σ H λx H1=>∃a C dx fs v,x=.ref a/\H1 a=some (.ins C dx fs)/\Cls K C/\NoAttr K C f/\fs.lookup f=some v/\Q v H1
def sFld (K:PySem.W.Frag)(ta tv:TE)(f:Str):TS:=λD σ H=>tv σ H λy H1=>ta σ H1 λx H2=>∃a C dx fs,x=.ref a/\H2 a=some (.ins C dx fs)/\Cls K C/\NoAttr K C f/\fs.length < 1000 /\
 D.nx σ (upd H2 a (.ins C dx (putF f y fs)))
section
variable {X:Cx}{o e value:Expr}{f:Str}{pos pos' tpos:Pos}{ta tv:TE}
theorem zcj (he:PE X e ta)(hb:attributeBase e f X.env (eval e X.env)=eval e X.env):PE X (.Attribute e f pos) (tFld X.K ta f):=by
 intro pins s σ H Q I h
 refine RB hb (thn (he pins s σ H _ I h) λu s1 ⟨x,H1,I1,rx,a,C,dx,fs,v,ex,ea,c,n,l,q⟩=>?_)
 subst ex
 obtain rfl:u=Value.ref a:=rx
 exact zhb I1 ea c n l λu' s2 I2 ru=>⟨v,H1,I2,ru,q⟩
theorem Kq (ha:PE X o ta)(hv:PE X value tv)(hs:swapsWith value (some (.Attribute o f pos')) pos.line X.env=pure false):PS X (.Assign [.Attribute o f pos'] value pos) (sFld X.K ta tv f):=by
 intro pins s σ H D I h
 refine plainObj_wpAny_Assign_Attribute (thn (hv pins s σ H _ I h) λu s1 ⟨y,H1,I1,ry,q⟩=>thn (ha pins s1 σ H1 _ I1 q) λov s2 ⟨x,H2,I2,rx,a,C,dx,fs,ex,ea,c,n,l,q2⟩=>?_) hs
 subst ex
 obtain rfl:ov=Value.ref a:=rx
 exact zah I2 ea c n l ry λs3 I3=>⟨σ,_,I3,q2⟩
end
section
variable {X:Cx}{pins:List (Addr×Obj)}{σ:St}{H:Hp}{s:Shared}{A:Around}{E:Value->Shared->Prop}{Q:Value->Shared->Prop}{c:Value}{b:Bool}
inductive TyOf (K:PySem.W.Frag) (H:Hp):V->Value->Prop where
 |non:TyOf K H .non (.type "NoneType")
 |bl (x:Bool):TyOf K H (.bl x) (.type "bool")
 |int (i:Int):TyOf K H (.int i) (.type "int")
 |str (x:Str):TyOf K H (.str x) (.type "str")
 |flt (x:UInt64):TyOf K H (.flt x) (.type "float")
 |lst {a:Addr} {xs:List V} (e:H a=some (.lst xs)):TyOf K H (.ref a) (.type "list")
 |frz {a:Addr} {o:Obj} {xs:List V} (e:H a=some (.frz o (.lst xs))):TyOf K H (.ref a) (.type "list")
 |tup {a:Addr} {xs:List V} (e:H a=some (.tup xs)):TyOf K H (.ref a) (.type "tuple")
 |dK {a:Addr} {kvs:List (Key×V)} (e:H a=some (.dK kvs)):TyOf K H (.ref a) (.type "dict")
 |dT {a:Addr} {kvs:List (List Key×V)} (e:H a=some (.dT kvs)):TyOf K H (.ref a) (.type "dict")
 |ins {a C dx:Addr} {fs:List (Str×V)} (e:H a=some (.ins C dx fs)) (cl:Cls K C) (ha:findIn K (.ref C) "__class__" = some (some (.builtin "object.__class__")))
   (hn:PySem.W.specialIn K (.builtin "object.__class__") "__get__" = some (some (.builtin "getset_descriptor.__get__"))) (htk:PySem.W.takesIn K (.builtin "object.__class__")=some true)
   (hm:PySem.W.mroIn K C (.type "object")=some true):TyOf K H (.ref a) (.ref C)
theorem UF {x:V}{u t:Value}(I:Inv X pins σ H s)(rx:RelV x u)(ty:TyOf X.K H x t)(e:kitOne X.K t c=some b)(h:∀tk,Q (.bool b) { s with toks:=tk }) :
  wpAny #[9] A (call (.builtin "isinstance") [u,c]) Q E s:=by
 cases ty with
 |non=>cases (show u=Value.none from rx);exact PySem.W.kia_one PySem.W.kitx_none I.kIn True.intro e (λz=>nomatch z) h
 |bl y=>cases (show u=Value.bool y from rx);exact PySem.W.kia_one PySem.W.kitx_bool I.kIn True.intro e (λz=>nomatch z) h
 |int i=>obtain⟨t,q⟩:=(show ∃t,u=Value.int i t from rx);cases q;exact PySem.W.kia_one PySem.W.kitx_int I.kIn True.intro e (λz=>nomatch z) h
 |str y=>obtain⟨t,q⟩:=(show ∃t,u=Value.str y t from rx);cases q;exact PySem.W.kia_one PySem.W.kitx_str I.kIn True.intro e (λz=>nomatch z) h
 |flt y=>obtain⟨t,q⟩:=(show ∃t,u=Value.float y t from rx);cases q;exact PySem.W.kia_one PySem.W.kitx_float I.kIn True.intro e (λz=>nomatch z) h
 | @lst a xs ea=>
  cases (show u=Value.ref a from rx)
  obtain⟨_,_,n,_,h1⟩:=(show ObjOk X.prog X.w H s.heap a (.lst xs) from I.hok a _ ea)
  exact PySem.W.kia_one PySem.W.kitx_list I.kIn ⟨_,h1,rfl⟩ e (λz=>nomatch z) h
 | @frz a ob xs ea=>
  cases (show u=Value.ref a from rx)
  obtain⟨_,_,_,n,_,h1⟩:=(show ObjOk X.prog X.w H s.heap a (.frz ob (.lst xs)) from I.hok a _ ea)
  exact PySem.W.kia_one PySem.W.kitx_list I.kIn ⟨_,h1,rfl⟩ e (λz=>nomatch z) h
 | @tup a xs ea=>
  cases (show u=Value.ref a from rx)
  obtain⟨_,_,_,p⟩:=(show ObjOk X.prog X.w H s.heap a (.tup xs) from I.hok a _ ea)
  obtain⟨o,h1,h2,_⟩:=p
  exact PySem.W.kia_one PySem.W.kitx_tuple I.kIn ⟨o,h1,h2⟩ e (λz=>nomatch z) h
 | @dK a kvs ea=>
  cases (show u=Value.ref a from rx)
  obtain⟨_,_,vs,_,p⟩:=(show ObjOk X.prog X.w H s.heap a (.dK kvs) from I.hok a _ ea)
  obtain⟨o,es,ep,h1,h2,_⟩:=p
  exact PySem.W.kia_one PySem.W.kitx_dict I.kIn ⟨o,h1,h2.1⟩ e (λz=>nomatch z) h
 | @dT a kvs ea=>
  cases (show u=Value.ref a from rx)
  obtain⟨_,_,xs,_,o,es,ep,h1,h2,_⟩:=(show ObjOk X.prog X.w H s.heap a (.dT kvs) from I.hok a _ ea)
  exact PySem.W.kia_one PySem.W.kitx_dict I.kIn ⟨o,h1,h2.1⟩ e (λz=>nomatch z) h
 | @ins a C dx fs ea cl ha hn htk hm=>
  cases (show u=Value.ref a from rx)
  obtain⟨mA,O,_⟩:=kU I.hok ea
  obtain⟨od,J,_⟩:=O.look
  exact PySem.W.kia_one (PySem.W.kitx_own (cl.get _) cl.hd ha hn htk hm) I.kIn J e (λz=>nomatch z) h
end
structure Room (k:Nat)(A:Around):Prop where
 hd:A.handled=none
 dp:A.depth+3 * k+5 < recursionLimit
 un:A.units+16 * k+200 < cLine
theorem Room.mono {j k:Nat}{A:Around}(r:Room k A)(h:j<=k):Room j A:=⟨r.hd,by have:=r.dp;omega,by have:=r.un;omega⟩
theorem Room.deeper {k:Nat}{A:Around}(r:Room (k+1) A)(env:Env):Room k (A.deeper env) :=
 ⟨r.hd,by have:=r.dp;show A.depth+1+3 * k+5 < _;omega,by have:=r.un;show A.units+3+16 * k+200 < _;omega⟩
theorem zbl {A:Around}{C:Addr}{us:List Value}{kw:List (Str×Value)}:(A.under (.builtin "type.__call__" ⟨.ref C::us,kw⟩)).depth=A.depth+1:=by
 first | rfl | simp[Around.under,Code.weight,Code.isCreation,Code.isGuard,Code.isCaller,Code.frames,Code.isFrame,guardIds]
theorem zb4 {A:Around}{C:Addr}{us:List Value}{kw:List (Str×Value)}:(A.under (.builtin "type.__call__" ⟨.ref C::us,kw⟩)).units=A.units+1:=by
 first | rfl | simp[Around.under,Code.cUnits,Code.frames,Code.isFrame]
theorem Room.make {k:Nat}{A:Around}(r:Room (k+1) A)(C:Addr)(us:List Value)(kw:List (Str×Value)):Room k (A.under (.builtin "type.__call__" ⟨.ref C::us,kw⟩)) :=
 ⟨r.hd,by have:=r.dp;rw[zbl];omega,by have:=r.un;rw[zb4];omega⟩
theorem Room.depth {k:Nat}{A:Around}(r:Room k A):A.depth < recursionLimit:=by have:=r.dp;omega
theorem Room.units {k:Nat}{A:Around}(r:Room k A):A.units+64 < cLine:=by have:=r.un;omega
def tNil:TA:=λ_ H Q=>Q [] H
def tCons (ta:TE)(tr:TA):TA:=λσ H Q=>ta σ H λx H1=>tr σ H1 λxs H2=>Q (x::xs) H2
section
variable {X:Cx}{e:Expr}{es:List Expr}{te:TE}{t:TA}{pos:Pos}
theorem yr:PA X [] tNil:=λ_ _ _ _ H Q I h=>Calls.spliced_nil ⟨[],H,I,.nil,h⟩
theorem zW (ha:PE X e te)(hr:PA X es t)(hs:starEach (e::es) X.env=(false,eval e X.env)::starEach es X.env:=by rfl):PA X (e::es) (tCons te t):=by
 intro pos pins s σ H Q I h
 rw[hs]
 show wpAny _ _ (spliced ((false,eval e X.env)::backTo pos (starEach es X.env))) _ _ s
 refine Calls.spliced_cons (thn (ha pins s σ H _ I h) λu s1 ⟨x,H1,I1,r1,q1⟩=>?_)
 exact thn (hr pos pins s1 σ H1 _ I1 q1) λus s2 ⟨xs,H2,I2,r2,q2⟩=>⟨x::xs,H2,I2,.cons r1 r2,q2⟩
def tTup (t:TA):TE:=λσ H Q=>t σ H λxs H1=>xs.length<=sizeLine/\∀p,H1 p=none->Q (.ref p) (upd H1 p (.tup xs))
def tLst (t:TA):TE:=λσ H Q=>t σ H λxs H1=>xs.length<=sizeLine/\∀p,H1 p=none->Q (.ref p) (upd H1 p (.lst xs))
theorem QH {x1}(h:PA X es t):PE X (.Tuple es x1 pos) (tTup t):=by
 intro pins s σ H Q I hq
 refine wpAny_Tuple_spliced (thn (h pos pins s σ H _ I hq) λus s1 ⟨xs,H1,I1,r,z,q⟩=>⟨by rw[<-r.length];exact z,?_⟩)
 have hf:H1 s1.heap.objs.size=none:=I1.hok.fresh (Nat.le_refl _)
 refine⟨.ref s1.heap.objs.size,upd H1 s1.heap.objs.size (.tup xs),I1.laid (t':=s1.toks) (λb u e=>Heap.get?_push_of_some _ e) (Nat.le_refl _) ?_,rfl,q _ hf⟩
 exact⟨z,us,r,⟨_,Heap.get?_push_size _ rfl,rfl,_,rfl⟩⟩
theorem Wv (h:PA X es t):PE X (.List es pos) (tLst t):=by
 intro pins s σ H Q I hq
 refine wpAny_List_spliced (thn (h pos pins s σ H _ I hq) λus s1 ⟨xs,H1,I1,r,z,q⟩=>⟨by rw[<-r.length];exact z,?_⟩)
 have hf:H1 s1.heap.objs.size=none:=I1.hok.fresh (Nat.le_refl _)
 refine⟨.ref s1.heap.objs.size,upd H1 s1.heap.objs.size (.lst xs),I1.laid (t':=s1.toks) (λb u e=>Heap.get?_push_of_some _ e) (Nat.le_refl _) ?_,rfl,q _ hf⟩
 exact⟨z,us,0,r,Heap.get?_push_size _ rfl⟩
end
abbrev Sp:=List V->Hp->VK->XK->Prop
abbrev CXT:=List Env->Hp->Shared->XK->Value->Shared->Prop
structure Env0 (P:Program)(w:World)(K:PySem.W.Frag)(mg:Str->Option Value)(base:Heap)(A:Around)(outer:List Env)(s:Shared)(H:Hp):Prop where
 frames:A.frames=some outer
 mod:Mod K mg base
 bs:∀b o,base.get? b=some o->s.heap.get? b=some o/\H b=none
 bsz:base.objs.size<=s.heap.objs.size
 funs:s.heap.FunFrames base outer
 frf:∀b∈frs outer,H b=none
 hok:HOk P w H s.heap
 bare:AllBare s.gens
def CE (outer:List Env)(P:Program)(w:World)(H:Hp)(s:Shared)(Q:VK)(u:Value)(s':Shared):Prop :=
 ∃v H',s'.os=s.os/\AllBare s'.gens/\Un (frs outer) [] H H' s.heap s'.heap/\HOk P w H' s'.heap/\RelV v u/\Q v H'
def CR (CX:CXT)(outer:List Env)(P:Program)(w:World)(H:Hp)(s:Shared)(Q:VK)(E:XK)(r:Result)(s':Shared):Prop :=
 match r with
 |.ok (.ret u)=>CE outer P w H s Q u s'
 |.ok _=>False
 |.error e=>CX outer H s E e s'
structure FnOk (P:Program)(w:World)(K:PySem.W.Frag)(mg:Str->Option Value)(base:Heap)(CX:CXT)(k:Nat)(f:Addr)(fd:FuncData)(ps:List Str)(sp:Sp):Prop where
 len:∀vs H Q E,sp vs H Q E->vs.length=ps.length
 run:∀(A:Around) (outer:List Env) (s:Shared) (H:Hp) (args:Args) (us:List Value) (vs:List V) (Q:VK) (E:XK),Room k A->Env0 P w K mg base A outer s H->BindsTo s fd args (ps.zip us)->Vals vs us->sp vs H Q E ->
  codeAny (model P w) A (.call (.ref f) args) (CR CX outer P w H s Q E) s
theorem FnOk.imp {P:Program}{w:World}{K:PySem.W.Frag}{mg:Str->Option Value}{base:Heap}{CX:CXT}{k:Nat}{f:Addr}{fd:FuncData}{ps:List Str}{sp sp':Sp}(F:FnOk P w K mg base CX k f fd ps sp)
  (h:∀vs H Q E,sp' vs H Q E->sp vs H Q E):FnOk P w K mg base CX k f fd ps sp' :=
 ⟨λvs H Q E q=>F.len vs H Q E (h _ _ _ _ q),λA outer s H args us vs Q E hr he hb hv hs=>F.run A outer s H args us vs Q E hr he hb hv (h _ _ _ _ hs)⟩
theorem Env0.make {P:Program}{w:World}{K:PySem.W.Frag}{mg:Str->Option Value}{base:Heap}{A:Around}{outer:List Env}{s:Shared}{H:Hp}(e:Env0 P w K mg base A outer s H)(C:Addr)(us:List Value)(kw:List (Str×Value)) :
  Env0 P w K mg base (A.under (.builtin "type.__call__" ⟨.ref C::us,kw⟩)) outer s H:=⟨by first | exact e.frames | (simpa[Around.under,Code.envs,Code.isFrame,pushEnvs] using e.frames),e.mod,e.bs,e.bsz,e.funs,e.frf,e.hok,e.bare⟩
section
variable {X:Cx}{pins:List (Addr×Obj)}{σ:St}{H:Hp}{s s':Shared}
theorem Inv.env0 (I:Inv X pins σ H s):Env0 X.prog X.w X.K X.mg X.base X.A X.stack s H :=
 ⟨I.ok.frames,I.ok.mod,I.bs,Nat.le_trans I.ok.bsz I.sz,I.stack,I.stkFree,I.hok,I.bare⟩
theorem Inv.after {Q:VK}{u:Value}(I:Inv X pins σ H s)(h:CE X.stack X.prog X.w H s Q u s'):EP X pins σ Q u s':=by
 obtain⟨v,H',os,bare,un,hok,r,q⟩:=h
 obtain⟨hh,g,d,t,os'⟩:=s'
 obtain rfl:os'=s.os:=os
 exact⟨v,H',I.call (h':=hh) (g':=g) (d':=d) (t':=t) (ch:=[]) un hok bare (λb z=>absurd z (by simp)),r,q⟩
end
def tCall (sp:Sp)(dvs:List V)(E:XK)(t:TA):TE:=λσ H Q=>t σ H λvs H1=>sp (vs++dvs) H1 Q E
def tMeth (C:Addr)(m:Str)(sp:Sp)(dvs:List V)(E:XK)(ta:TE)(t:TA):TE:=λσ H Q=>ta σ H λx H1=>∃a dx fs,x=.ref a/\H1 a=some (.ins C dx fs)/\fs.lookup m=none /\
 t σ H1 λvs H2=>sp (x::(vs++dvs)) H2 Q E
def tMake (C:Addr)(sp:Sp)(dvs:List V)(E:XK)(t:TA):TE:=λσ H Q=>t σ H λvs H1=>∀x dx,H1 x=none->H1 dx=none->dx≠x ->
 sp (.ref x::(vs++dvs)) (upd (upd H1 dx (.own x)) x (.ins C dx [])) (λv H2=>v=.non/\Q (.ref x) H2) E
def Binds (K:PySem.W.Frag)(fd:FuncData)(ps:List Str)(ds:List Value):Prop :=
 ∀(s:Shared) (us:List Value),K.In s.heap->(us++ds).length=ps.length->BindsTo s fd ⟨us,[]⟩ (ps.zip (us++ds))
theorem Binds.all {K:PySem.W.Frag}{fd:FuncData}{ps:List Str}(h:∀us:List Value,us.length=ps.length->bindArgs fd ⟨us,[]⟩=pure (ps.zip us)):Binds K fd ps []:=λs us _ hl=>by
 rw[List.append_nil] at hl ⊢
 exact .of_eq (h us hl)
def Passes (CX:CXT)(X:Cx)(E:XK):Prop:=∀(pins:List (Addr×Obj)) (σ:St) (H:Hp) (s:Shared) (e:Value) (s':Shared),Inv X pins σ H s->CX X.stack H s E e s'->X.xe e s'
section
variable {X:Cx}{CX:CXT}{k:Nat}{f C:Addr}{fd:FuncData}{ps:List Str}{sp:Sp}{dvs:List V}{ds:List Value}{E:XK}{x m:Str}{p pos apos:Pos}{e o:Expr}{es:List Expr}{ta:TE}{t:TA}
theorem qA {pins:List (Addr×Obj)}{σ:St}{H:Hp}{s:Shared}{Q:VK}{us:List Value}{vs:List V}(F:FnOk X.prog X.w X.K X.mg X.base CX k f fd ps sp)(hr:Room k X.A)(hb:Binds X.K fd ps ds)(hd:Vals dvs ds)(hx:Passes CX X E)
  (I:Inv X pins σ H s) (r:Vals vs us) (h:sp (vs++dvs) H Q E):wpAny #[9] X.A (call (.ref f) us) (EP X pins σ Q) X.xe s:=by
 have r2:Vals (vs++dvs) (us++ds):=r.append hd
 have hl:(us++ds).length=ps.length:=by rw[<-r2.length];exact F.len _ _ _ _ h
 refine wpAny_call (codeAny_mono (F.run X.A X.stack s H ⟨us,[]⟩ (us++ds) (vs++dvs) Q E hr I.env0 (hb s us I.kIn hl) r2 h) λr s' hq=>?_)
 cases r with
 |error e=>exact hx pins σ H s e s' I hq
 |ok fl=>
  cases fl with
  |ret u=>exact I.after hq
  |next=>exact False.elim hq
  |brk=>exact False.elim hq
  |cont=>exact False.elim hq
theorem jM (F:FnOk X.prog X.w X.K X.mg X.base CX k f fd ps sp)(hr:Room k X.A)(hg:Gl X x)(hm:X.mg x=some (.ref f))(hk:keepIn X.K (.ref f)=true)(hb:Binds X.K fd ps ds)(hd:Vals dvs ds)(hx:Passes CX X E)
  (ha:PA X (e::es) t) (hdb:#[20]=false:=by decide) (he:starEach (e::es) X.env=(false,eval e X.env)::starEach es X.env:=by rfl) (hpl:#[24].any (·.1)=false:=by rfl) :
  PE X #[26] (tCall sp dvs E t):=by
 intro pins s σ H Q I h
 refine wpAny_Call_Name_kw (x5 I hg hm ?_ hdb)
 refine PySem.W.callWith_K (h₀:=X.base) I.ok.mod.kin hk (thn (ha pos pins s σ H _ I h) λus s1 ⟨vs,H1,I1,r,q⟩=>⟨I1.kIn,?_⟩) he hpl
 exact qA F hr hb hd hx I1 r q
theorem zcc {pl:Sem Bool}(he:PE X o ta)(c:Cls X.K C)(hm:Meth X.K C m f)(F:FnOk X.prog X.w X.K X.mg X.base CX k f fd ps sp)(hr:Room k X.A)(hb:Binds X.K fd ps ds)(hd:Vals dvs ds)(hx:Passes CX X E)(ha:PA X (e::es) t)
  (hst:starEach (e::es) X.env=(false,eval e X.env)::starEach es X.env:=by rfl) (hpl:#[24].any (·.1)=false:=by rfl)
  (ht:eval (.Call (.Attribute o m apos) (e::es) [] pos) X.env=(do
   let ov <-eval o X.env
   standAt apos.atName
   let (f,first) <-holding [ov] (getMethod ov m pl)
   callWith pos f first (backTo pos (starEach (e::es) X.env)) (backToKw pos (keywordEach [] X.env))):=by rfl) :
  PE X (.Call (.Attribute o m apos) (e::es) [] pos) (tMeth C m sp dvs E ta t):=by
 intro pins s σ H Q I h
 refine PySem.W.methodCall_KW (pl:=pl) (thn (he pins s σ H _ I h) λu s1 ⟨x,H1,I1,rx,a,dx,fs,ex,ea,l,q⟩=>?_) ht
 subst ex
 obtain rfl:u=Value.ref a:=rx
 refine WB I1 ea c hm l ?_
 refine PySem.W.callWith_K (first:=[.ref a]) (h₀:=X.base) I.ok.mod.kin hm.kp (thn (ha pos pins s1 σ H1 _ I1 q) λus s2 ⟨vs,H2,I2,r,q2⟩=>⟨I2.kIn,?_⟩) hst hpl
 exact qA (us:=.ref a::us) (vs:=.ref a::vs) F hr hb hd hx I2 (.cons rfl r) q2
theorem Qv {pl:Sem Bool}(he:PE X o ta)(c:Cls X.K C)(hm:Meth X.K C m f)(F:FnOk X.prog X.w X.K X.mg X.base CX k f fd ps sp)(hr:Room k X.A)(hb:Binds X.K fd ps ds)(hd:Vals dvs ds)(hx:Passes CX X E)
  (ht:eval (.Call (.Attribute o m apos) [] [] pos) X.env=(do
   let ov <-eval o X.env
   standAt apos.atName
   let (f,first) <-holding [ov] (getMethod ov m pl)
   callWith pos f first (backTo pos (starEach [] X.env)) (backToKw pos (keywordEach [] X.env))):=by rfl) :
  PE X (.Call (.Attribute o m apos) [] [] pos) (tMeth C m sp dvs E ta tNil):=by
 intro pins s σ H Q I h
 refine PySem.W.methodCall_KW (pl:=pl) (thn (he pins s σ H _ I h) λu s1 ⟨x,H1,I1,rx,a,dx,fs,ex,ea,l,q⟩=>?_) ht
 subst ex
 obtain rfl:u=Value.ref a:=rx
 refine WB I1 ea c hm l ?_
 exact PySem.W.callWith_K0 (first:=[.ref a]) I1.kIn hm.kp (qA (us:=[.ref a]) (vs:=[.ref a]) F hr hb hd hx I1 (.cons rfl .nil) q)
structure Mk (K:PySem.W.Frag)(C f:Addr):Prop where
 makes:PySem.W.makesIn K C=true
 init:findIn K (.ref C) "__init__" = some (some (.ref f))
 fn:PySem.W.isFn K (.ref f)=true
 kp:keepIn K (.ref C)=true
theorem zas {pins:List (Addr×Obj)}{σ:St}{H:Hp}{s:Shared}{Q:VK}{us:List Value}{vs:List V}(M:Mk X.K C f)(F:FnOk X.prog X.w X.K X.mg X.base CX k f fd ps sp)(hr:Room (k+1) X.A)(hb:Binds X.K fd ps ds)(hd:Vals dvs ds)
  (hx:Passes CX X E) (I:Inv X pins σ H s) (r:Vals vs us)
  (h:∀x dx,H x=none->H dx=none->dx≠x->sp (.ref x::(vs++dvs)) (upd (upd H dx (.own x)) x (.ins C dx [])) (λv H2=>v=.non/\Q (.ref x) H2) E) :
  wpAny #[9] X.A (call (.ref C) us) (EP X pins σ Q) X.xe s:=by
 have hq:=h (s.heap.objs.size+1) s.heap.objs.size (I.hok.fresh (Nat.le_succ _)) (I.hok.fresh (Nat.le_refl _)) (Nat.ne_of_lt (Nat.lt_succ_self _))
 have I2:=Inv.made (C:=C) I
 have r2:Vals (V.ref (s.heap.objs.size+1)::(vs++dvs)) (Value.ref (s.heap.objs.size+1)::(us++ds)):=.cons rfl (r.append hd)
 have hl:(Value.ref (s.heap.objs.size+1)::us++ds).length=ps.length:=by
  have e:=r2.length
  rw[F.len _ _ _ _ hq] at e
  exact e.symm
 refine wpAny_call (Uq (f:=f) I.kIn M.makes M.init (beq_iff_eq.mp M.fn) (codeAny_mono (F.run _ X.stack _ _ ⟨Value.ref (s.heap.objs.size+1)::us,[]⟩ (Value.ref (s.heap.objs.size+1)::(us++ds)) _ _ E (hr.make C us [])
  (I2.env0.make C us []) (hb _ (Value.ref (s.heap.objs.size+1)::us) I2.kIn hl) r2 hq) λr s' hq'=>?_))
 cases r with
 |error e=>exact hx pins σ _ _ e s' I2 hq'
 |ok fl=>
  cases fl with
  |ret u=>
   obtain⟨v,H',I3,rv,ev,q3⟩:=I2.after hq'
   subst ev
   exact⟨rv,⟨V.ref (s.heap.objs.size+1),H',I3,rfl,q3⟩⟩
  |next=>exact False.elim hq'
  |brk=>exact False.elim hq'
  |cont=>exact False.elim hq'
theorem Qi (M:Mk X.K C f)(F:FnOk X.prog X.w X.K X.mg X.base CX k f fd ps sp)(hr:Room (k+1) X.A)(hg:Gl X x)(hm:X.mg x=some (.ref C))(hb:Binds X.K fd ps ds)(hd:Vals dvs ds)(hx:Passes CX X E)
  (ha:PA X (e::es) t) (hdb:#[20]=false:=by decide) (he:starEach (e::es) X.env=(false,eval e X.env)::starEach es X.env:=by rfl) (hpl:#[24].any (·.1)=false:=by rfl) :
  PE X #[26] (tMake C sp dvs E t):=by
 intro pins s σ H Q I h
 refine wpAny_Call_Name_kw (x5 I hg hm ?_ hdb)
 refine PySem.W.callWith_K (h₀:=X.base) I.ok.mod.kin M.kp (thn (ha pos pins s σ H _ I h) λus s1 ⟨vs,H1,I1,r,q⟩=>⟨I1.kIn,?_⟩) he hpl
 exact zas M F hr hb hd hx I1 r q
end
section
variable {X:Cx}{CX:CXT}{k:Nat}{f C:Addr}{fd:FuncData}{ps ks:List Str}{sp:Sp}{E:XK}{x m:Str}{p pos apos kpos:Pos}{e o:Expr}{es:List Expr}{kws:List Keyword}{te ta:TE}{t tk:TA}{nm:Option Str}
structure KBinds (K:PySem.W.Frag)(fd:FuncData)(ps ks:List Str)(g:List Value->List Value->List Value)(gV:List V->List V->List V):Prop where
 to:∀(s:Shared) (us ws:List Value),K.In s.heap->(g us ws).length=ps.length->BindsTo s fd ⟨us,ks.zip ws⟩ (ps.zip (g us ws))
 rel:∀ {vs:List V} {us:List Value} {zs:List V} {ws:List Value},Vals vs us->Vals zs ws->Vals (gV vs zs) (g us ws)
variable {g:List Value->List Value->List Value}{gV:List V->List V->List V}
end
structure FnScope (N P:List Str)(sc:Scope):Prop where
 kind:sc.kind=.function
 co:sc.isCoroutine=false
 gen:sc.isGenerator=false
 nd:N.Nodup
 pre:N.take P.length=P
 par:∀x∈P,sc.names.lookup x=some .local∨sc.names.lookup x=some .cell
 nofree:∀y∈sc.names,y.2≠.free
theorem JD {kindOf:Str->Option NameKind}{x:Str}:∀ {binds:List (Str×Value)} {m:Str->Option Value},(∀v,(x,v)∉binds)->bindL kindOf binds m x=m x
 | [],_,_=>rfl
 | (n,v)::r,m,h=>by
  unfold bindL
  rw[JD λw hw=>h w (List.mem_cons_of_mem _ hw)]
  split
  ·have:x≠n:=by rintro rfl;exact h v List.mem_cons_self
   simp[this]
  ·rfl
theorem YV {kindOf:Str->Option NameKind}{x:Str}:∀ {binds:List (Str×Value)} {m:Str->Option Value},(∀v,(x,v)∉binds)->bindC kindOf binds m x=m x
 | [],_,_=>rfl
 | (n,v)::r,m,h=>by
  unfold bindC
  rw[YV λw hw=>h w (List.mem_cons_of_mem _ hw)]
  split
  ·rfl
  ·have:x≠n:=by rintro rfl;exact h v List.mem_cons_self
   simp[this]
theorem Vj {kindOf:Str->Option NameKind}{x:Str}{v:Value}:∀ {P:List Str} {vs:List Value} {i:Nat} {m:Str->Option Value},P.Nodup->P[i]?=some x->vs[i]?=some v->kindOf x=some .local ->
  bindL kindOf (P.zip vs) m x=some v
 | [],_,_,_,_,h,_,_=>by simp at h
 |_::_,[],_,_,_,_,h,_=>by simp at h
 |p::P,w::vs,0,m,nd,h1,h2,hk=>by
  simp at h1 h2;subst h1;subst h2
  show bindL kindOf ((p,w)::P.zip vs) m p=_
  unfold bindL
  rw[JD λv hv=>(List.nodup_cons.mp nd).1 (List.of_mem_zip hv).1,if_pos hk]
  simp
 |p::P,w::vs,i+1,m,nd,h1,h2,hk=>by
  show bindL kindOf ((p,w)::P.zip vs) m x=_
  unfold bindL
  exact Vj (i:=i) (List.nodup_cons.mp nd).2 (by simpa using h1) (by simpa using h2) hk
theorem Wk {kindOf:Str->Option NameKind}{x:Str}{v:Value}:∀ {P:List Str} {vs:List Value} {i:Nat} {m:Str->Option Value},P.Nodup->P[i]?=some x->vs[i]?=some v->kindOf x≠some .local ->
  bindC kindOf (P.zip vs) m x=some v
 | [],_,_,_,_,h,_,_=>by simp at h
 |_::_,[],_,_,_,_,h,_=>by simp at h
 |p::P,w::vs,0,m,nd,h1,h2,hk=>by
  simp at h1 h2;subst h1;subst h2
  show bindC kindOf ((p,w)::P.zip vs) m p=_
  unfold bindC
  rw[YV λv hv=>(List.nodup_cons.mp nd).1 (List.of_mem_zip hv).1,if_neg hk]
  simp
 |p::P,w::vs,i+1,m,nd,h1,h2,hk=>by
  show bindC kindOf ((p,w)::P.zip vs) m x=_
  unfold bindC
  exact Wk (i:=i) (List.nodup_cons.mp nd).2 (by simpa using h1) (by simpa using h2) hk
def start (N:List Str)(vs:List V):St:=vs.map some++List.replicate (N.length - vs.length) none
def cxOf (CX:CXT)(P:Program)(w:World)(K:PySem.W.Frag)(mg:Str->Option Value)(base:Heap)(N:List Str)(qual:Str)(scope:Scope)(f:Addr)(cd:Value)(A:Around)(outer:List Env)(s:Shared)(H:Hp)(E:XK):Cx where
 prog:=P
 w:=w
 K:=K
 mg:=mg
 base:=base
 A:=A.deeper (envOfC qual scope s.heap.objs.size f cd)
 N:=N
 s₀:=s
 H₀:=H
 env:=envOfC qual scope s.heap.objs.size f cd
 outer:=outer
 stack:=envOfC qual scope s.heap.objs.size f cd::outer
 ex:=[]
 calm:=true
 fn:=λ_=>true
 pn:=[]
 xe:=λe s'=>wpAny (model P w) (A.deeper (envOfC qual scope s.heap.objs.size f cd)) (leaving (envOfC qual scope s.heap.objs.size f cd) e) (λ_ s''=>CX outer H s E e s'') (λe' s''=>CX outer H s E e' s'') s'
theorem VR {sc:Scope}{n:Nat}{x:Str}(h:sc.names.lookup x=some .cell):∃c,(cellsFrom n sc.names []).lookup x=some c:=by
 have q:=PySem.W.cellsFrom_some sc.names n [] (.inl h)
 exact Option.isSome_iff_exists.mp q
theorem RG {CX:CXT}{P:Program}{w:World}{K:PySem.W.Frag}{mg:Str->Option Value}{base:Heap}{N ps:List Str}{qual:Str}{scope:Scope}{f:Addr}{cd:Value}{A:Around}{outer:List Env}{s s1:Shared}{H:Hp}{E:XK}{us:List Value}{vs:List V}
  (S:FnScope N ps scope) (hd:A.handled=none) (e0:Env0 P w K mg base A outer s H) (hl:vs.length=ps.length) (r:Vals vs us)
  (x:InCallC s s.heap.objs.size (bindL (envOfC qual scope s.heap.objs.size f cd).kindOf (ps.zip us) λ_=>none) (cellsFrom (s.heap.objs.size+1) scope.names []) (bindC (envOfC qual scope s.heap.objs.size f cd).kindOf (ps.zip us) λ_=>none) s1) :
  Inv (cxOf CX P w K mg base N qual scope f cd A outer s H E) [] (start N vs) H s1:=by
 have hpl:ps.length<=N.length:=by have:=congrArg List.length S.pre;rw[List.length_take] at this;omega
 obtain⟨h1,tk,rfl,hk⟩:=x.done
 have noA:∀b:Addr,b∉(cxOf CX P w K mg base N qual scope f cd A outer s H E).ex:=λb z=>absurd (show b∈([]:List Addr) from z) (by simp)
 refine⟨⟨e0.mod,S.kind,rfl,rfl,Nat.le_refl _,λy z c h1 h2=>?_,λy hy=>?_,λy c _ h=>?_,λ_=>hd,Around.frames_deeper e0.frames,.inr ⟨rfl,rfl⟩,λb z=>absurd z (noA b),e0.bs,e0.bsz,λb _ _=>noA b,λb z=>absurd z (noA b),e0.funs,e0.frf⟩,
  rfl,e0.bare,Un.kept hk,⟨_,x.toInCall.ns,λi y v h1 h2 h3=>?_⟩,λy c h=>⟨_,x.cell y c h⟩,e0.hok.fresh (Nat.le_refl _),λy c h=>?_,λp hp=>absurd (show p∈([]:List (Addr×Obj)) from hp) (by simp),e0.hok.kept hk,?_⟩
 ·exact name_of_addr x.apart (PySem.mem_of_lookup h1) (PySem.mem_of_lookup h2)
 ·have hy:scope.names.lookup y=some .cell∨scope.names.lookup y=some .free:=hy
  rcases hy with hy | hy
  ·exact VR hy
  ·exact absurd rfl (S.nofree _ (PySem.mem_of_lookup hy))
 ·exact Nat.le_of_lt (x.above y c (PySem.mem_of_lookup h))
 ·have hi:i < vs.length:=by
   unfold start at h2
   by_cases hi:i < vs.length
   ·exact hi
   ·rw[List.getElem?_append_right (by simpa using hi)] at h2
    rw[List.getElem?_replicate] at h2
    split at h2<;>cases h2
  have ha:vs[i]?=some v:=by
   unfold start at h2
   rw[List.getElem?_append_left (by simpa using hi),List.getElem?_map] at h2
   cases e:vs[i]? with
   |none=>rw[e] at h2;cases h2
   |some a=>rw[e] at h2;cases h2;rfl
  obtain⟨u,hu,rv⟩:=r.get ha
  have hp:ps[i]?=some y:=by
   rw[<-S.pre,List.getElem?_take_of_lt #[1]];exact h1
  have ndP:ps.Nodup:=by rw[<-S.pre];exact S.nd.sublist (List.take_sublist _ _)
  refine⟨u,rv,?_⟩
  rcases S.par y (List.mem_of_getElem? hp) with k | k
  ·exact .inl ⟨k,Vj ndP hp hu k⟩
  ·obtain⟨c,e⟩:=VR (n:=s.heap.objs.size+1) k
   refine .inr ⟨.inl k,c,e,?_⟩
   have q:=x.cell y c e
   rw[Wk ndP hp hu (by show scope.names.lookup y≠_;rw[k];decide)] at q
   exact q
 ·exact e0.hok.fresh (Nat.le_of_lt (x.above y c (PySem.mem_of_lookup h)))
 ·unfold start
  show _=N.length
  rw[List.length_append,List.length_map,List.length_replicate]
  omega
theorem Zw {CX:CXT}{P:Program}{w:World}{K:PySem.W.Frag}{mg:Str->Option Value}{base:Heap}{k:Nat}{f:Addr}{name qual:Str}{params:Arguments}{body:List Stmt}{scope:Scope}{dV kV doc pm cdv ct oc:Value}{an od:Option Addr}
  {osl:Array #[8]} {N ps:List Str} {sp:Sp} (lk:K.lookup f=some ⟨oc,od,.func (fnOf name qual params body scope dV kV doc pm an cdv ct),osl⟩) (hcd:codeIn K cdv qual=true) (S:FnScope N ps scope)
  (len:∀vs H Q E,sp vs H Q E->vs.length=ps.length)
  (hbody:∀(A:Around) (outer:List Env) (s:Shared) (H:Hp) (vs:List V) (Q:VK) (E:XK),Room k (A.deeper (envOfC qual scope s.heap.objs.size f cdv))->sp vs H Q E ->
   ∃t,PSs (cxOf CX P w K mg base N qual scope f cdv A outer s H E) body t/\t { nx:=λ_ H'=>Q .non H',rt:=Q } (start N vs) H) :
  FnOk P w K mg base CX (k+1) f (fnOf name qual params body scope dV kV doc pm an cdv ct) ps sp:=by
 refine⟨len,λA outer s H args us vs Q E hr e0 hb r hsp=>?_⟩
 have hl:=len _ _ _ _ hsp
 have KX:K.In s.heap:=e0.mod.kin.keeps λb o e=>(e0.bs b o e).1
 have lim:s.heap.NoLimit:=e0.mod.nolimit.keeps λb o e=>(e0.bs b o e).1
 have hkind:∀y∈ps.zip us,scope.names.lookup y.1=some .local∨(scope.names.lookup y.1=some .cell/\((cellsFrom (s.heap.objs.size+1) scope.names []).lookup y.1).isSome=true):=fun⟨n,v⟩ hy=>by
  rcases S.par n (List.of_mem_zip hy).1 with q | q
  ·exact .inl q
  ·exact .inr ⟨q,PySem.W.cellsFrom_some _ _ _ (.inl q)⟩
 refine codeAny_call_function hr.depth (KX _ _ lk) rfl S.co S.gen rfl (PySem.W.codeRec_of KX hcd) (hb _ _ _ _ ?_)
 refine wpAny_newFunctionEnv_cells S.kind hkind λenv he s1 x=>?_
 subst he
 refine⟨lim.keeps x.toInCall.keep,codeAny_func ?_⟩
 obtain⟨t,ht,hq⟩:=hbody A outer s H vs Q E (hr.deeper _) hsp
 have I:Inv (cxOf CX P w K mg base N qual scope f cdv A outer s H E) [] (start N vs) H s1:=RG S hr.hd e0 hl r x
 refine wpAny_mono (ht [] s1 (start N vs) H _ I hq) (λfl s' hs=>?_) λe s' hs=>hs
 have fin:∀ {σ':St} {H':Hp} {v:V} {u:Value},Inv (cxOf CX P w K mg base N qual scope f cdv A outer s H E) [] σ' H' s'->RelV v u->Q v H'->CE outer P w H s Q u s' :=
  fun {σ' H' v u} J rv q=>⟨v,H',J.os,J.bare,J.base,J.hok,rv,q⟩
 cases fl with
 |ret u=>
  obtain⟨v,σ',H',J,rv,q⟩:=hs
  exact fin J rv q
 |next=>
  obtain⟨σ',H',J,q⟩:=hs
  exact fin (v:=V.non) (u:=Value.none) J rfl q
 |brk=>
  obtain⟨_,_,_,q⟩:=hs
  exact False.elim q
 |cont=>
  obtain⟨_,_,_,q⟩:=hs
  exact False.elim q
section
variable {X:Cx}{x:Str}{p pos:Pos}{e:Expr}{es:List Expr}{t:TA}{id T:String}{r:List V->Hp->VK->Prop}
def tCB (r:List V->Hp->VK->Prop)(t:TA):TE:=λσ H Q=>t σ H λvs H1=>r vs H1 Q
theorem u4 (hc:CallR X (.builtin id) r)(hg:Gl X x)(hm:X.mg x=none)(hv:bootBuiltins x=some (.builtin id))(ha:PA X (e::es) t)(hn:x ≠ "__name__" := by decide) (hdb:#[20]=false:=by decide)
  (he:starEach (e::es) X.env=(false,eval e X.env)::starEach es X.env:=by rfl) (hpl:#[24].any (·.1)=false:=by rfl):PE X #[26] (tCB r t):=by
 intro pins s σ H Q I h
 refine wpAny_Call_Name_kw (vG I hg hm hv ?_ hn hdb)
 exact PyProof.Rows.callWith_builtin1 (thn (ha pos pins s σ H _ I h) λus s1 ⟨vs,H1,I1,r1,q1⟩=>hc pins s1 σ H1 vs us Q I1 r1 q1) he hpl
theorem qX (hc:CallR X (.type T) r)(hg:Gl X x)(hm:X.mg x=none)(hv:bootBuiltins x=some (.type T))(ha:PA X (e::es) t)(hn:x ≠ "__name__" := by decide) (hdb:#[20]=false:=by decide)
  (he:starEach (e::es) X.env=(false,eval e X.env)::starEach es X.env:=by rfl) (hpl:#[24].any (·.1)=false:=by rfl):PE X #[26] (tCB r t):=by
 intro pins s σ H Q I h
 refine wpAny_Call_Name_kw (vG I hg hm hv ?_ hn hdb)
 exact PyProof.Rows.callWith_type1 (thn (ha pos pins s σ H _ I h) λus s1 ⟨vs,H1,I1,r1,q1⟩=>hc pins s1 σ H1 vs us Q I1 r1 q1) he hpl
end
end L2
namespace HT
open PySem PyProof.Rows
section
open PySem.SeqAt
open PySem.AutoSeq1 (wpAny_loadPart')
open PySem.MeetsSeq PySem.MeetsSeq2 PySem.MeetsSeq3
end
section
variable {prog:Program}{w:World}{A:Around}{E:Value->Shared->Prop}{s:Shared}
def sIx (n d:Nat):Option Int->Nat
 |none=>d
 |some v=>if v < 0 then (v+(n:Int)).toNat else min v.toNat n
end
end HT
namespace L2
open PySem PySem.Spec PyProof.Rows
abbrev TO:=St->Hp->(Option Int->Hp->Prop)->Prop
def PO (X:Cx)(e:Option Expr)(t:TO):Prop :=
 ∀(pins:List (Addr×Obj)) (s:Shared) (σ:St) (H:Hp) (Q:Option Int->Hp->Prop),Inv X pins σ H s->t σ H Q ->
  wpAny #[9] X.A (evalPart e X.env) (λu s'=>∃o H',Inv X pins σ H' s'/\IsPart u o/\Q o H') X.xe s
def zeh:TO:=λ_ H Q=>Q none H
def tPart (t:TE):TO:=λσ H Q=>t σ H λx H1=>∃i,x=.int i/\Q (some i) H1
section
variable {X:Cx}{e:Expr}{te:TE}{lo hi:Option Expr}{tl th:TO}{pos p2:Pos}
theorem zds:PO X none zeh:=by
 intro pins s σ H Q I h
 rw[evalPart_none]
 exact wpAny_pure ⟨none,H,I,.none,h⟩
theorem zeu (h:PE X e te):PO X (some e) (tPart te):=by
 intro pins s σ H Q I hw
 rw[evalPart_some]
 refine thn (h pins s σ H _ I hw) λu s1 ⟨x,H1,I1,r1,q1⟩=>?_
 obtain⟨i,rfl,q⟩:=q1
 obtain⟨t,rfl⟩:=r1
 exact⟨some i,H1,I1,.int i t,q⟩
def SlR (X:Cx)(r:V->Option Int->Option Int->Hp->VK->Prop):Prop :=
 ∀(pins:List (Addr×Obj)) (s:Shared) (σ:St) (H:Hp) (x:V) (v vl vu:Value) (lo hi:Option Int) (sl:Addr) (Q:VK),Inv X pins σ H s->RelV x v->s.heap.IsSliceOf sl vl vu .none->IsPart vl lo->IsPart vu hi->r x lo hi H Q ->
  ∃T id,typeLookup (.type T) "__getitem__" = pure (some (.builtin id))/\s.TypeIs v T/\wpAny #[9] X.A (getItem v (.ref sl)) (EP X pins σ Q) X.xe s
def tSl (r:V->Option Int->Option Int->Hp->VK->Prop)(te:TE)(tl th:TO):TE:=λσ H Q=>te σ H λx H1=>tl σ H1 λl H2=>th σ H2 λu H3=>r x l u H3 Q
theorem Qq {r:V->Option Int->Option Int->Hp->VK->Prop}(hr:SlR X r)(he:PE X e te)(hl:PO X lo tl)(hu:PO X hi th):PE X (.Subscript e (.Slice lo hi none p2) pos) (tSl r te tl th):=by
 intro pins s σ H Q I h
 refine Subscript_ (thn (he pins s σ H _ I h) λv s1 ⟨x,H1,I1,r1,q1⟩=>?_)
 refine wpAny_Slice (thn (hl pins s1 σ H1 _ I1 q1) λvl s2 ⟨l,H2,I2,pl,q2⟩=>thn (hu pins s2 σ H2 _ I2 q2) λvu s3 ⟨u,H3,I3,pu,q3⟩=>?_)
 rw[evalPart_none]
 refine wpAny_pure ?_
 have I4:Inv X pins σ H3 { s3 with heap:=s3.heap.push { cls:=.type "slice",data:=.fields #[vl,vu,.none] } }:=I3.kept (t':=s3.toks) λb ob q=>Heap.get?_push_of_some _ q
 obtain⟨T,id,hT,ht,hg⟩:=hr pins { s3 with heap:=s3.heap.push { cls:=.type "slice",data:=.fields #[vl,vu,.none] } } σ H3 x v vl vu l u s3.heap.objs.size Q I4 r1 (Heap.IsSliceOf.new ..) pl pu q3
 show wpAny #[9] X.A (subscriptTail e (.Slice lo hi none p2) v (.ref s3.heap.objs.size)) (EP X pins σ Q) X.xe { s3 with heap:=s3.heap.push { cls:=.type "slice",data:=.fields #[vl,vu,.none] } }
 exact tail_any (ops:=[.ref s3.heap.objs.size,v]) ht hT hg (by with_unfolding_all rfl)
def cutV (xs:List V)(lo hi:Option Int):List V:=(xs.drop (HT.sIx xs.length 0 lo)).take (HT.sIx xs.length xs.length hi - HT.sIx xs.length 0 lo)
theorem Uy (xs:List V)(lo hi:Option Int):(cutV xs lo hi).length<=xs.length:=by
 unfold cutV
 rw[List.length_take,List.length_drop]
 omega
end
def ixN (n:Nat)(i:Int):Option Nat:=if 0<=i then (if i < n then some i.toNat else none) else if -(n:Int)<=i then some (i+n).toNat else none
def atI {α:Type}(xs:List α)(i:Int):Option α:=(ixN xs.length i).bind λj=>xs[j]?
theorem J3 {n:Nat}{i:Int}{j:Nat}(h:ixN n i=some j):seqIndex? i n=some j/\j < n/\-(n:Int)<=i/\i < n:=by
 unfold ixN at h
 by_cases h0:0<=i
 ·rw[if_pos h0] at h
  by_cases h1:i < n
  ·rw[if_pos h1] at h
   have e:i.toNat=j:=Option.some.inj h
   exact⟨by rw[seqIndex_of h0 h1,e],by omega,by omega,h1⟩
  ·rw[if_neg h1] at h;cases h
 ·rw[if_neg h0] at h
  by_cases h1:-(n:Int)<=i
  ·rw[if_pos h1] at h
   have e:(i+n).toNat=j:=Option.some.inj h
   exact⟨by rw[seqIndex_neg #[1] h1,e],by omega,h1,by omega⟩
  ·rw[if_neg h1] at h;cases h
theorem Yo {α:Type}{xs:List α}{i:Int}{v:α}(h:atI xs i=some v):∃j,seqIndex? i xs.length=some j/\xs[j]?=some v/\j < xs.length/\-(xs.length:Int)<=i/\i < xs.length:=by
 unfold atI at h
 cases e:ixN xs.length i with
 |none=>rw[e] at h;cases h
 |some j=>
  rw[e] at h
  obtain⟨h1,h2,h3,h4⟩:=J3 e
  exact⟨j,h1,h,h2,h3,h4⟩
theorem atI_nat {α:Type}{xs:List α}{j:Nat}{v:α}(h:xs[j]?=some v):atI xs (j:Int)=some v:=by
 have hj:j < xs.length:=(List.getElem?_eq_some_iff.mp h).1
 have e:ixN xs.length (j:Int)=some j:=by
  unfold ixN
  rw[if_pos #[1],if_pos #[1]];simp
 unfold atI;rw[e];exact h
def ug (b:Expr):Prop:=∀o i,subscripted b false o i=operate [o,i] (getItem o i)
def IxR (X:Cx)(r:R2):Prop :=
 ∀(value slice:Expr) (pins:List (Addr×Obj)) (s:Shared) (σ:St) (H:Hp) (x y:V) (v u:Value) (Q:VK),Inv X pins σ H s->RelV x v->RelV y u->r x y H Q ->
  subscripted slice false v u=operate [v,u] (getItem v u)->wpAny #[9] X.A (subscriptTail value slice v u) (EP X pins σ Q) X.xe s
def MtR (X:Cx)(id:String)(r:V->List V->Hp->VK->Prop):Prop :=
 ∀(pins:List (Addr×Obj)) (s:Shared) (σ:St) (H:Hp) (x:V) (xs:List V) (v:Value) (us:List Value) (Q:VK),Inv X pins σ H s->RelV x v->Vals xs us->r x xs H Q ->
  wpAny #[9] X.A (call (.builtin id) (v::us)) (EP X pins σ Q) X.xe s
section
variable {X:Cx}{a b:Expr}{ta tb:TE}{pos:Pos}
theorem IxR.or {r r':R2}(h:IxR X r)(h':IxR X r'):IxR X (λx y H Q=>r x y H Q∨r' x y H Q):=by
 intro value slice pins s σ H x y v u Q I rx ry q hs
 rcases q with q | q
 ·exact h value slice pins s σ H x y v u Q I rx ry q hs
 ·exact h' value slice pins s σ H x y v u Q I rx ry q hs
theorem V0 {r:R2}(hr:IxR X r)(ha:PE X a ta)(hb:PE X b tb)(hs:ug b):PE X (.Subscript a b pos) (tOp r ta tb):=by
 intro pins s σ H Q I h
 exact Subscript_ (binT ha hb I h λv u s2 x y H2 I2 rx ry q=>hr a b pins s2 σ H2 x y v u Q I2 rx ry q (hs _ _))
def rIxL (K:PySem.W.Frag):R2:=λx y H Q=>∃p xs i v,x=.ref p/\y=.int i/\SqL K H p xs/\atI xs i=some v/\Q v H
def rIxT (K:PySem.W.Frag):R2:=λx y H Q=>∃p xs i v,x=.ref p/\y=.int i/\SqT K H p xs/\atI xs i=some v/\Q v H
def rIxS:R2:=λx y H Q=>∃z i c,x=.str z/\y=.int i/\z.length<=sizeLine/\atI z.cps.toList i=some c/\Q (.str ⟨#[c]⟩) H
theorem ix_list:IxR X (rIxL X.K):=by
 intro value slice pins s σ H x y v u Q I rx ry h hs
 obtain⟨p,xs,i,z,rfl,rfl,hq,he,q⟩:=h
 cases rx
 obtain⟨t,rfl⟩:=ry
 obtain⟨its,r,pl,hz⟩:=I.list hq
 obtain⟨j,h1,h2,h3,h4,h5⟩:=Yo he
 obtain⟨w,ew,rw'⟩:=r.get h2
 have hl:=r.length
 have hn:=line63
 have fin:EP X pins σ Q w s:=⟨z,H,I,rw',q⟩
 by_cases h0:0<=i
 ·have hj:i.toNat=j:=by
   rw[seqIndex_of h0 h5] at h1
   exact Option.some.inj h1
  exact item_listR pl.isList h0 #[1] (by rw[hj];simpa using ew) fin hs
 ·have hj:(i+(its.toArray.size:Int)).toNat=j:=by
   rw[seqIndex_neg #[1] h4] at h1
   rw[List.size_toArray,<-hl]
   exact Option.some.inj h1
  exact subscriptTail_builtinR (x:=w) pl.isList.typeIs slot_list_getitem.lookup
   (wpAny_getItem_list_neg (Q:=λr s'=>r=w/\EP X pins σ Q r s') pl.isList #[1] (by rw[List.size_toArray]<;>omega) #[1] (by rw[hj];simpa using ew) ⟨rfl,fin⟩) hs
theorem ix_tup:IxR X (rIxT X.K):=by
 intro value slice pins s σ H x y v u Q I rx ry h hs
 obtain⟨p,xs,i,z,rfl,rfl,hq,he,q⟩:=h
 cases rx
 obtain⟨t,rfl⟩:=ry
 obtain⟨its,r,pl,hz⟩:=I.tuple hq
 obtain⟨j,h1,h2,h3,h4,h5⟩:=Yo he
 obtain⟨w,ew,rw'⟩:=r.get h2
 have hl:=r.length
 have hn:=line63
 have fin:EP X pins σ Q w s:=⟨z,H,I,rw',q⟩
 exact subscriptTail_builtinR (x:=w) pl.typeIs slot_tuple_getitem.lookup
  (getItem_tuple (j:=j) (Q:=λr s'=>r=w/\EP X pins σ Q r s') pl #[1] #[1] (by rw[List.size_toArray,<-hl];exact h1) (by simpa using ew) ⟨rfl,fin⟩) hs
theorem zdm:IxR X rIxS:=by
 intro value slice pins s σ H x y v u Q I rx ry h hs
 obtain⟨z,i,c,rfl,rfl,hz,he,q⟩:=h
 obtain⟨t,rfl⟩:=rx
 obtain⟨t',rfl⟩:=ry
 obtain⟨j,h1,h2,h3,h4,h5⟩:=Yo he
 have hl:z.cps.toList.length=z.length:=by simp[Str.length]
 rw[hl] at h1 h4 h5
 have hn:=line63
 exact tail_any (typeIs_str s z t) slot_str_getitem.lookup (getItem_str (c:=c) (by
  have e1:decide (i < -(2 ^ 63:Int))=false:=decide_eq_false #[1]
  have e2:decide (i≥2 ^ 63)=false:=decide_eq_false #[1]
  rw[e1,e2,Bool.or_false]) (by rw[h1];simpa using h2) ⟨.str ⟨#[c]⟩,H,I.tok _,⟨_,rfl⟩,q⟩) hs
def rIx (K:PySem.W.Frag):R2:=λx y H Q=>rIxL K x y H Q∨rIxT K x y H Q∨rIxS x y H Q
theorem Jq:IxR X (rIx X.K):=ix_list.or (ix_tup.or zdm)
theorem Ur (its:List Value)(n j:Nat)(u:Value):Obj.mapSeq (·.setIfInBounds j u) { cls:=.type "list",data:=.seq its.toArray n }={ cls:=.type "list",data:=.seq (its.set j u).toArray n }:=by
 simp[Obj.mapSeq]
theorem Inv.lst {pins:List (Addr×Obj)}{σ:St}{H:Hp}{s:Shared}{p:Addr}{xs:List V}(I:Inv X pins σ H s)(h:H p=some (.lst xs)) :
  ∃(its:List Value) (n:Nat),Vals xs its/\s.heap.get? p=some { cls:=.type "list",data:=.seq its.toArray n }/\xs.length<=sizeLine:=by
 obtain⟨z,its,n,r,e⟩:=I.hok p _ h
 exact⟨its,n,r,e,z⟩
theorem Inv.lstUpd {pins:List (Addr×Obj)}{σ:St}{H:Hp}{s:Shared}{p:Addr}{xs ys:List V}{its its':List Value}{n n':Nat}{f:Obj->Obj}(I:Inv X pins σ H s)(h:H p=some (.lst xs))
  (ho:s.heap.get? p=some { cls:=.type "list",data:=.seq its.toArray n }) (hf:f { cls:=.type "list",data:=.seq its.toArray n }={ cls:=.type "list",data:=.seq its'.toArray n' }) (r:Vals ys its') (hz:ys.length<=sizeLine) (t:Nat) :
  Inv X pins σ (upd H p (.lst ys)) { s with heap:=s.heap.update p f,toks:=t }:=by
 have e:(s.heap.update p f).get? p=some { cls:=.type "list",data:=.seq its'.toArray n' }:=by
  rw[Heap.get?_update_self f ho (by rw[hf]<;>rfl),hf]
 refine I.write (x:=p) (e:=p) (by rw[h];trivial) (.inl rfl) (λb u hb q=>(Heap.get?_update_other _ _ (Ne.symm hb)).trans q) ⟨_,e⟩ ?_
 exact⟨hz,its',n',r,e⟩
def rSetL:V->V->V->Hp->(Hp->Prop)->Prop:=λo i v H Q=>∃p xs k j,o=.ref p/\i=.int k/\H p=some (.lst xs)/\ixN xs.length k=some j/\Q (upd H p (.lst (xs.set j v)))
theorem Ru:PSet X rSetL:=by
 intro pins s σ H o i v ov iv u Q I ro ri rv h
 obtain⟨p,xs,k,j,rfl,rfl,hp,hj,q⟩:=h
 cases ro
 obtain⟨t,rfl⟩:=ri
 obtain⟨its,n,r,ho,hz⟩:=I.lst hp
 obtain⟨h1,h2,h3,h4⟩:=J3 hj
 have hl:=r.length
 have hn:=line63
 have I':Inv X pins σ (upd H p (.lst (xs.set j v))) { s with heap:=s.heap.update p (Obj.mapSeq (·.setIfInBounds j u)) } :=
  I.lstUpd hp ho (Ur its n j u) (r.set rv j) (by rw[List.length_set];exact hz) s.toks
 by_cases h0:0<=k
 ·have hk:k.toNat=j:=by
   rw[seqIndex_of h0 h4] at h1
   exact Option.some.inj h1
  exact PySem.W.ki_setAt ho h0 #[1] (by rw[List.size_toArray,<-hl];exact h4) (by rw[hk];exact⟨_,I',q⟩)
 ·have hk:(k+(its.toArray.size:Int)).toNat=j:=by
   rw[seqIndex_neg #[1] h3] at h1
   rw[List.size_toArray,<-hl]
   exact Option.some.inj h1
  exact PySem.W.ki_setBack ho #[1] (by rw[List.size_toArray,<-hl];exact h3) #[1] (by rw[hk];exact⟨_,I',q⟩)
theorem UZ (lo hi:Option Int)(n:Nat):(sliceBounds lo hi none n).1=((HT.sIx n 0 lo:Nat):Int)/\(sliceBounds lo hi none n).2.1=((HT.sIx n n hi:Nat):Int)/\(sliceBounds lo hi none n).2.2=1:=by
 refine⟨?_,?_,rfl⟩
 ·cases lo with
  |none=>simp[sliceBounds,HT.sIx]
  |some i=>
   simp only[sliceBounds,HT.sIx,Option.getD_none,show (1:Int) > 0 by decide,if_true]
   by_cases h:i < 0
   ·simp only[h,if_true]<;>omega
   ·simp only[h,if_false]<;>omega
 ·cases hi with
  |none=>simp[sliceBounds,HT.sIx]
  |some i=>
   simp only[sliceBounds,HT.sIx,Option.getD_none,show (1:Int) > 0 by decide,if_true]
   by_cases h:i < 0
   ·simp only[h,if_true]<;>omega
   ·simp only[h,if_false]<;>omega
theorem zdj (its:List Value)(lo hi:Option Int):slicePick its.toArray lo hi none=((its.drop (HT.sIx its.length 0 lo)).take (HT.sIx its.length its.length hi - HT.sIx its.length 0 lo)).toArray:=by
 obtain⟨h1,h2,h3⟩:=UZ lo hi its.toArray.size
 unfold slicePick
 rw[h1,h2,h3]
 simp only[sliceRange_one,pick_run,List.size_toArray]<;>rfl
def rSlL (K:PySem.W.Frag):V->Option Int->Option Int->Hp->VK->Prop:=λx lo hi H Q=>∃a xs,x=.ref a/\SqL K H a xs/\∀p,H p=none->Q (.ref p) (upd H p (.lst (cutV xs lo hi)))
theorem zdk:SlR X (rSlL X.K):=by
 intro pins s σ H x v vl vu lo hi sl Q I rx hs pl pu h
 obtain⟨a,xs,rfl,hx,q⟩:=h
 cases rx
 obtain⟨its,r,ht,hz⟩:=I.list hx
 have hlen:=r.length
 refine⟨"list",_,slot_list_getitem.lookup,ht.isList.typeIs,?_⟩
 refine wpAny_getItem_list_slice ht.isList hs pl pu .none (by simp) ?_ (by rw[List.size_toArray]<;>omega)
 rw[zdj,<-hlen]
 refine⟨.ref s.heap.objs.size,_,I.laid (t':=s.toks) (o:=.lst (cutV xs lo hi)) (λb ob q=>Heap.get?_push_of_some _ q) (Nat.le_refl _) ?_,rfl,q _ (I.hok.fresh (Nat.le_refl _))⟩
 exact⟨Nat.le_trans (Uy xs lo hi) hz,_,0,(r.drop (HT.sIx xs.length 0 lo)).take (HT.sIx xs.length xs.length hi - HT.sIx xs.length 0 lo),Heap.get?_push_size _ rfl⟩
def tyV (K:PySem.W.Frag)(T:String)(x:V)(H:Hp):Prop:=match x with
 |.str _=>T = "str"
 |.int _=>T = "int"
 |.ref p=>(T = "list" /\ ∃xs,SqL K H p xs)∨(T = "tuple" /\ ∃o,K.lookup p=some o/\o.cls=.type "tuple" /\ o.dict=none) ∨
   (T = "dict" /\ ((∃kvs,H p=some (.dK kvs))∨∃kvs,H p=some (.dT kvs)))∨(T = "set" /\ ∃S n,H p=some (.set S n))
 |_=>False
theorem KF {pins:List (Addr×Obj)}{σ:St}{H:Hp}{s:Shared}{T:String}{x:V}{v:Value}(I:Inv X pins σ H s)(r:RelV x v)(ty:tyV X.K T x H) :
  s.TypeIs v T/\∀a,v=.ref a->∃ob,s.heap.get? a=some ob/\ob.dict=none:=by
 cases x with
 |str z=>
  obtain⟨t,rfl⟩:=r
  cases (show T = "str" from ty)
  exact⟨typeIs_str s z t,λ_ e=>nomatch e⟩
 |int i=>
  obtain⟨t,rfl⟩:=r
  cases (show T = "int" from ty)
  exact⟨typeIs_int s i t,λ_ e=>nomatch e⟩
 |ref p=>
  cases r
  rcases ty with⟨rfl,xs,hq⟩ | ⟨rfl,o,hk,hc,hd⟩ | ⟨rfl,hk⟩ | ⟨rfl,S,n,hk⟩
  ·obtain⟨its,_,pl,_⟩:=I.list hq
   refine⟨pl.isList.typeIs,λa e=>?_⟩
   cases e
   obtain⟨o,n,e,c,hd,_⟩:=pl
   exact⟨o,e,hd⟩
  ·refine⟨⟨o,I.kIn p o hk,hc⟩,λa e=>?_⟩
   cases e
   exact⟨o,I.kIn _ o hk,hd⟩
  ·have z:∃o,s.heap.get? p=some o/\o.ExactDict:=by
    rcases hk with⟨kvs,hk⟩ | ⟨kvs,hk⟩
    ·obtain⟨_,_,_,_,o,_,_,e,ex,_⟩:=I.hok p _ hk
     exact⟨o,e,ex⟩
    ·obtain⟨_,_,_,_,o,_,_,e,ex,_⟩:=I.hok p _ hk
     exact⟨o,e,ex⟩
   obtain⟨o,e,ex⟩:=z
   refine⟨⟨o,e,ex.1⟩,λa e2=>?_⟩
   cases e2
   exact⟨o,e,ex.2.1⟩
  ·obtain⟨o,_,_,_,e,ex,_⟩:=I.hok p _ hk
   refine⟨⟨o,e,ex.1⟩,λa e2=>?_⟩
   cases e2
   exact⟨o,e,ex.2.1⟩
 |_=>exact False.elim ty
def tBM0 (K:PySem.W.Frag)(T:String)(r:V->List V->Hp->VK->Prop)(to:TE):TE:=λσ H Q=>to σ H λx H1=>tyV K T x H1/\r x [] H1 Q
def tBM (K:PySem.W.Frag)(T:String)(r:V->List V->Hp->VK->Prop)(to:TE)(t:TA):TE:=λσ H Q=>to σ H λx H1=>tyV K T x H1/\t σ H1 λxs H2=>r x xs H2 Q
variable {o e:Expr}{es:List Expr}{to:TE}{t:TA}{name:Str}{apos cpos:Pos}{T id:String}{r:V->List V->Hp->VK->Prop}
theorem We (pa:PlainAttrs T)(slot:Slot T name id)(hty:typeOf (.builtin id)=pure (.type "method_descriptor")) (hm:MtR X id r) (ho:PE X o to)
  (hbase:attributeBase o name X.env (eval o X.env)=eval o X.env:=by rfl) (hline:(apos.endLine==cpos.line)=true:=by rfl):PE X (.Call (.Attribute o name apos) [] [] cpos) (tBM0 X.K T r to):=by
 intro pins s σ H Q I h
 refine wpAny_Call_method0_late hbase hline (thn (ho pins s σ H _ I h) λv s1 ⟨x,H1,I1,r1,ty,q1⟩=>?_)
 obtain⟨h1,h2⟩:=KF I1 r1 ty
 exact⟨T,id,pa,slot,hty,h1,h2,Calls.callWith_builtin rfl (PySem.evalArgs_none (hm pins s1 σ H1 x [] v [] Q I1 r1 .nil q1))⟩
theorem UO (pa:PlainAttrs T)(slot:Slot T name id)(hty:typeOf (.builtin id)=pure (.type "method_descriptor")) (hm:MtR X id r) (ho:PE X o to) (ha:PA X (e::es) t)
  (hbase:attributeBase o name X.env (eval o X.env)=eval o X.env:=by rfl)
  (hfew:((backTo cpos (starEach (e::es) X.env)).all (λx=>!x.1)&&(backToKw cpos (keywordEach [] X.env)).all (λx=>x.1.isSome)
   && decide ((e::es).length+([]:List Keyword).length+(if ([]:List Keyword).isEmpty then 0 else 1) < 30))=true:=by rfl)
  (hline:(apos.endLine==cpos.line)=true:=by rfl) (hs:starEach (e::es) X.env=(false,eval e X.env)::starEach es X.env:=by rfl) (hplain:(backTo cpos (starEach es X.env)).any (·.1)=false:=by rfl) :
  PE X (.Call (.Attribute o name apos) (e::es) [] cpos) (tBM X.K T r to t):=by
 intro pins s σ H Q I h
 refine wpAny_Call_method_late hbase hfew hline rfl (thn (ho pins s σ H _ I h) λv s1 ⟨x,H1,I1,r1,ty,q1⟩=>?_)
 obtain⟨h1,h2⟩:=KF I1 r1 ty
 refine⟨T,id,pa,slot,hty,h1,h2,?_⟩
 have hA:=ha cpos pins s1 σ H1 _ I1 q1
 rw[hs] at hA ⊢
 refine Calls.callWith_builtin (by show (false||(backTo cpos (starEach es X.env)).any (·.1))=false;rw[hplain]<;>rfl) (Calls.evalArgs_plain ?_)
 exact thn hA λus s2 ⟨vs,H2,I2,r2,q2⟩=>hm pins s2 σ H2 x vs v us Q I2 r1 r2 q2
end
def MtM (X:Cx)(id:String)(r:V->List V->Hp->VK->Prop):Prop :=
 ∀(pins:List (Addr×Obj)) (s:Shared) (σ:St) (H:Hp) (x:V) (xs:List V) (v:Value) (us:List Value) (Q:VK),Inv X pins σ H s->RelV x v->Vals xs us->r x xs H Q ->
  wpAny #[9] X.A (call (.builtin id) (v::us)) (EP X pins σ Q) X.xe s
theorem Vals.one:∀ {x:V} {us:List Value},Vals [x] us->∃u,us=[u]/\RelV x u
 |_,_,.cons r .nil=>⟨_,rfl,r⟩
theorem Vals.zero:∀ {us:List Value},Vals [] us->us=[]
 |_,.nil=>rfl
theorem Vals.dropLast {xs:List V}{us:List Value}(h:Vals xs us):Vals xs.dropLast us.dropLast:=by
 induction h with
 |nil=>exact .nil
 |cons r t ih=>
  cases t with
  |nil=>exact .nil
  |cons q t'=>exact .cons r ih
theorem Vals.rep {xs:List V}{us:List Value}(h:Vals xs us):∀k:Nat,Vals (List.replicate k xs).flatten (List.replicate k us).flatten
 |0=>.nil
 |k+1=>by
  rw[List.replicate_succ,List.replicate_succ,List.flatten_cons,List.flatten_cons]
  exact Vals.append h (Vals.rep h k)
theorem R6 {α:Type}(l:List α):l.eraseIdx (l.length - 1)=l.dropLast:=by
 induction l with
 |nil=>rfl
 |cons a r ih=>
  cases r with
  |nil=>rfl
  |cons b r=>
   have e:(a::b::r).length - 1=((b::r).length - 1)+1:=by
    have h1:(a::b::r).length=r.length+2:=rfl
    have h2:(b::r).length=r.length+1:=rfl
    omega
   rw[e,List.eraseIdx_cons_succ,ih]
   all_goals rfl
theorem K9 (its:List Value):∀(k:Nat) (acc:List Value),
  List.foldl (λx1 x2=>x1++x2) acc.toArray (List.replicate k its.toArray)=(acc++(List.replicate k its).flatten).toArray
 |0,acc=>by simp
 |k+1,acc=>by
  have e:acc.toArray++its.toArray=(acc++its).toArray:=by simp
  have e2:(acc++its)++(List.replicate k its).flatten=acc++(List.replicate (k+1) its).flatten:=by
   rw[List.replicate_succ,List.flatten_cons,List.append_assoc]
  rw[<-e2,<-K9 its k (acc++its),<-e,List.replicate_succ,List.foldl_cons]
section
variable {X:Cx}{pins:List (Addr×Obj)}{σ:St}{H:Hp}{s:Shared}{l b:Addr}{xs ys zs:List V}
theorem Inv.lset {its its':List Value}{n:Nat}{f:Array Value->Array Value}{t':Nat}(I:Inv X pins σ H s)(hH:H l=some (.lst xs))
  (e:s.heap.get? l=some { cls:=.type "list",data:=.seq its.toArray n }) (hf:f its.toArray=its'.toArray) (hv:Vals ys its') (hz:ys.length<=sizeLine) :
  Inv X pins σ (upd H l (.lst ys)) { s with heap:=s.heap.update l (Obj.mapSeq f),toks:=t' }:=by
 have q:=PySem.IsL.update e f
 rw[hf] at q
 refine I.write (x:=l) (e:=l) (by rw[hH];exact trivial) (.inl rfl) (λb' u hb hu=>(Heap.get?_update_other s.heap (Obj.mapSeq f) (Ne.symm hb)).trans hu) ⟨_,q⟩ ?_
 exact⟨hz,its',_,hv,q⟩
theorem Inv.lnew {its:List Value}{t':Nat}(I:Inv X pins σ H s)(hv:Vals ys its)(hz:ys.length<=sizeLine) :
  Inv X pins σ (upd H s.heap.objs.size (.lst ys)) { s with heap:=s.heap.push { cls:=.type "list",data:=.seq its.toArray },toks:=t' } :=
 I.laid (λ_ _ q=>Heap.get?_push_of_some _ q) (Nat.le_refl _) ⟨hz,its,0,hv,Heap.get?_push_size _ rfl⟩
theorem Inv.fresh (I:Inv X pins σ H s):H s.heap.objs.size=none:=I.hok.fresh (Nat.le_refl _)
theorem Inv.lstM (I:Inv X pins σ H s)(hH:H l=some (.lst xs)):xs.length<=sizeLine/\∃(its:List Value) (n:Nat),Vals xs its/\xs.length=its.length/\s.heap.get? l=some { cls:=.type "list",data:=.seq its.toArray n }:=by
 obtain⟨z,its,n,r,e⟩:=I.hok l _ hH
 exact⟨z,its,n,r,r.length,e⟩
theorem zgn {n:Nat}(h:n<=sizeLine):Builtin.List.listTooLong n=false:=by
 unfold Builtin.List.listTooLong
 exact decide_eq_false #[1]
end
section
variable {X:Cx}
def zhi:V->List V->Hp->VK->Prop:=λx vs H Q=>∃l xs y,x=.ref l/\vs=[y]/\H l=some (.lst xs)/\xs.length < sizeLine/\Q .non (upd H l (.lst (xs++[y])))
theorem zcf:MtM X "list.append" zhi:=by
 intro pins s σ H x vs v us Q I rx rv h
 obtain⟨l,xs,y,rfl,rfl,hH,hz,q⟩:=h
 cases rx
 obtain⟨u,rfl,ru⟩:=rv.one
 obtain⟨z,its,n,r,hl,e⟩:=I.lstM hH
 refine call_meets F.slot_list_append ⟨_,e,rfl⟩ F.entry_list_append (F.args_list_append_2 _ _) (PySem.list_append l its.toArray n u (by rw[List.size_toArray];omega)) ⟨e,?_⟩
 refine⟨.non,_,I.lset (its':=its++[u]) hH e (by simp) (r.append (.cons ru .nil)) ?_,rfl,q⟩
 rw[List.length_append,List.length_singleton]
 omega
def rPop:V->List V->Hp->VK->Prop:=λx vs H Q=>∃l xs y,x=.ref l/\vs=[]/\H l=some (.lst xs)/\xs[xs.length - 1]?=some y/\Q y (upd H l (.lst xs.dropLast))
theorem Ri:MtM X "list.pop" rPop:=by
 intro pins s σ H x vs v us Q I rx rv h
 obtain⟨l,xs,y,rfl,rfl,hH,hy,q⟩:=h
 cases rx
 have hus:=rv.zero
 subst hus
 obtain⟨z,its,n,r,hl,e⟩:=I.lstM hH
 obtain⟨u,hu,ru⟩:=r.get hy
 have hy':its.toArray[its.toArray.size - 1]?=some u:=by
  show its.toArray[its.length - 1]?=some u
  rw[<-Array.getElem?_toList,<-hl]
  exact hu
 refine call_meets F.slot_list_pop ⟨_,e,rfl⟩ F.entry_list_pop (F.args_list_pop_1 _) (MeetsSeq.list_pop_last l its.toArray n u hy' (by rw[List.size_toArray];omega)) ⟨e,?_⟩
 refine⟨y,_,I.lset (its':=its.dropLast) hH e ?_ r.dropLast ?_,ru,q⟩
 ·show its.toArray.eraseIdxIfInBounds (its.toArray.size - 1)=its.dropLast.toArray
  rw[List.size_toArray,List.eraseIdxIfInBounds_toArray,R6]
 ·rw[List.length_dropLast]
  omega
def rClear:V->List V->Hp->VK->Prop:=λx vs H Q=>∃l xs,x=.ref l/\vs=[]/\H l=some (.lst xs)/\Q .non (upd H l (.lst []))
theorem zdi:MtM X "list.clear" rClear:=by
 intro pins s σ H x vs v us Q I rx rv h
 obtain⟨l,xs,rfl,rfl,hH,q⟩:=h
 cases rx
 have hus:=rv.zero
 subst hus
 obtain⟨z,its,n,r,hl,e⟩:=I.lstM hH
 refine call_meets F.slot_list_clear ⟨_,e,rfl⟩ F.entry_list_clear (F.args_list_clear_1 _) (AutoSeq1.list_clear_list_0 l its.toArray n (by rw[List.size_toArray];omega)) ⟨e,?_⟩
 exact⟨.non,_,I.lset (its':=[]) (ys:=[]) hH e rfl .nil (Nat.zero_le _),rfl,q⟩
def rRep:R2:=λx y H Q=>∃l k xs,x=.ref l/\y=.int k/\H l=some (.lst xs)/\-(2 ^ 63)<=k/\k < 2 ^ 63/\xs.length * k.toNat<=sizeLine /\
 ∀p,H p=none->Q (.ref p) (upd H p (.lst (List.replicate k.toNat xs).flatten))
theorem zbp {α:Type}(xs:List α)(k:Nat):(List.replicate k xs).flatten.length=k * xs.length:=by
 induction k with
 |zero=>simp
 |succ k ih=>rw[List.replicate_succ,List.flatten_cons,List.length_append,ih,Nat.succ_mul,Nat.add_comm]
theorem zhq:OpR X (binaryOp .Mult) rRep:=by
 intro pins s σ H x y v u Q I rx ry h
 obtain⟨l,k,xs,rfl,rfl,hH,h1,h2,hz,q⟩:=h
 cases rx
 obtain⟨t,rfl⟩:=ry
 obtain⟨z,its,n,r,hl,e⟩:=I.lstM hH
 have hlen:its.toArray.size * k.toNat<=sizeLine:=by rw[List.size_toArray,<-hl];exact hz
 have hcap:¬its.toArray.size * k.toNat > (2 ^ 63 - 1) / 8:=by
  have:(sizeLine:Nat)<=(2 ^ 63 - 1) / 8:=by decide
  omega
 have hfit:¬(!Builtin.List.listFitsIndex k)=true:=by
  rw[fitsIndex_both h1 h2]
  exact Bool.false_ne_true
 have hlong:¬Builtin.List.listTooLong (its.toArray.size * k.toNat)=true:=by
  rw[zgn hlen]
  exact Bool.false_ne_true
 have hnew:List.foldl (λx1 x2=>x1++x2) #[] (List.replicate (if its.toArray.isEmpty=true then 0 else k.toNat) its.toArray)=(List.replicate k.toNat its).flatten.toArray:=by
  have f0:∀m:Nat,List.foldl (λx1 x2=>x1++x2) #[] (List.replicate m its.toArray)=(List.replicate m its).flatten.toArray:=λm=>by
   have:=K9 its m []
   rw[List.nil_append] at this
   exact this
  rw[f0]
  cases its with
  |nil=>simp
  |cons a r'=>rw[if_neg (by simp)]
 refine wpAny_binaryOp_repeat_ref (T := "list") (U := "int") #[7] ⟨_,e,rfl⟩ (λs'=>typeIs_int s' k t) noFill_list_mul F.fills_int_mul F.slot_int_rmul repeat_list F.slot_int_index.lookup
  (call_meets F.slot_int_rmul (typeIs_int s k t) F.entry_int_rmul (F.args_int_rmul_2 _ _) (int___rmul___int_list k t l its.toArray n)
   ⟨e,rfl,⟨_,e,rfl⟩,call_meets F.slot_list_mul ⟨_,e,rfl⟩ F.entry_list_mul (F.args_list_mul_2 _ _) (AutoListH.list___mul___list_int_3 l its.toArray n k t hfit hcap hlong) ⟨e,?_⟩⟩)
 rw[hnew]
 exact⟨.ref _,_,I.lnew (t':=s.toks) (r.rep k.toNat) (by rw[zbp,Nat.mul_comm];exact hz),rfl,q _ I.fresh⟩
end
section
variable {prog:Program}{w:World}{A:Around}{E:Value->Shared->Prop}{s:Shared}
end
section
variable {X:Cx}
end
end L2
namespace Att
open PySem PySem.W PySem.Calls PyProof.Rows
theorem zba {P:Params}{h:Heap}:∀(ns:List Int) (vs:List Value),WellAll P h vs (ns.map WData.int)->IntsAre vs ns:=by
 intro ns
 induction ns with
 |nil=>
  intro vs w
  rw[List.map_nil] at w
  cases w
  exact .nil
 |cons n ns ih=>
  intro vs w
  rw[List.map_cons] at w
  cases w with
  |cons a b=>
   cases a
   exact .cons _ _ (ih _ b)
theorem zbh {l:OpenLaw}{n:Nat}(hn:l.most=some n){P:Params}{h:Heap}{args:List WData}{vals:List Value}
  (hpre:l.row.toRowW.claim.pre args=true) (hwl:WellAll P h vals args) :
  ∃a vs ns,vals=[Value.ref a]/\args=[WData.list (ns.map WData.int)]/\h.get? a=some { cls:=.type "list",data:=.seq vs.toArray }/\IntsAre vs ns/\ns.length<=n:=by
 have hsh:WShape.hasAll [] args [.list .int]=true:=(pre_splitW hpre).1
 have hc:l.pre.holds [] { args:=args }=true:=(pre_splitW hpre).2
 obtain⟨d,r,rfl,h1,h2⟩:=hasAllW_cons hsh
 obtain rfl:=hasAllW_nil h2
 obtain⟨xs,rfl,h3⟩:=hasW_list h1
 obtain⟨ns,rfl⟩:=items_int h3
 have hlen:ns.length<=n:=by
  unfold OpenLaw.pre at hc
  have h4:(WTm.not (.lt (.lit (.int (n:Int))) (.len (.arg 0)))).holds [] { args:=[.list (ns.map .int)] }=true:=by
   have h4:=(holds_andW hc).1
   rw[hn] at h4
   exact h4
  have h5:=condW_of h4 (w_not (w_lt w_lit (w_len_list (w_arg rfl))))
  rw[List.length_map] at h5
  refine Nat.le_of_not_lt λq=>?_
  have q':(n:Int) < ((ns.length:Nat):Int):=by omega
  first
   | (rw[decide_eq_true q'] at h5;exact absurd h5 #[7])
   | (simp at h5;omega)
 cases hwl with
 |cons w1 w2=>
  cases w2
  cases w1 with
  |list ho hall=>exact⟨_,_,ns,rfl,rfl,ho,zba ns _ hall,hlen⟩
theorem UL (l:OpenLaw)(args:List WData):l.row.toRowW.claim.post args (.bool true) args=true :=
 postW_of (r:=l.row.toRowW) (X:=(true==true))
  (show WShape.has [] (.bool true) .bool=true by first | rfl | decide | simp[WShape.has,WShape.arms,WShape.armsAll])
  (show (WTm.eq .res (.lit (.bool true))).value [] { args:=args,res:=some (.bool true),after:=args }=some (.bool (true==true)) from w_eq_bool (w_res rfl) w_lit) rfl
theorem attach_call {l:OpenLaw}{n:Nat}{q:Program}{loose:List Str}{XP:(Str->Option Value)->Heap->Prop}{YP:World->Heap->Prop}{d:DefRec}
  (hn:l.most=some n) (hdf:d.params.defaults=[])
  (call:∀(w:World) (s₀ s₁:Shared) (mg mb:Str->Option Value) (fa:Addr) (o:Obj) (pm cd doc:Value) (a:Addr) (vs:List Value) (ns:List Int),
   Ground q loose [] XP w s₀ mg mb s₁.heap->YP w s₁.heap ->
   s₁.heap.get? fa=some o->o.data=.func (docDef d.name d.params d.body d.scope pm cd doc)->s₁.heap.CodeRec cd d.name->mg d.name=some (.ref fa) ->
   s₁.heap.get? a=some { cls:=.type "list",data:=.seq vs.toArray }->IntsAre vs ns->ns.length<=n->s₁.gens=#[] ->
   codeAny (model l.prog w) callerA (.call (.ref fa) ⟨[.ref a],[]⟩) (λr s'=>r=.ok (.ret (.bool true))/\OldK s₁.heap s'.heap/\s'.os=s₁.os/\AllBare s'.gens) s₁) :
  WalkO q loose XP YP l.row.toRowW d [] (λf vs=>PySem.call f vs):=by
 intro w s₀ s₁ mg mb G Y fa o pm cd doc dV kV ho hd hcd hD hmg hg args vals as hpre hlay hrd hwl hlo
 obtain rfl:dV=.none:=Dflts.none hD hdf
 obtain rfl:kV=.none:=Dflts.noKw hD
 obtain⟨a,vs,ns,rfl,rfl,hobj,hints,hlen⟩:=zbh hn hpre hwl
 refine enter_call (codeAny_mono (call w s₀ s₁ mg mb fa o pm cd doc a vs ns G Y ho (fd_plain hd) hcd hmg hobj hints hlen hg) λr s' hq=>?_)
 obtain⟨rfl,h2,h3,h4⟩:=hq
 exact⟨.inl ⟨.bool true,.bool true,[],rfl,λ_=>rfl,.bool true,UL l _,λ_=>⟨List.Pairwise.nil,λ_ hm=>(nomatch hm)⟩⟩,h2,h3,h4⟩
section
variable {prog:Program}{w:World}{A:Around}{E:Value->Shared->Prop}{s:Shared}{K:Frag}
def ledger (h:Heap)(L d:Addr):List (Addr×Obj):=(List.range h.objs.size).filterMap λa=>if a=L∨a=d then none else (h.get? a).map λo=>(a,o)
end
end Att
namespace L2
open PySem PySem.Spec PyProof.Rows
theorem VI:∀ {vs:List Value} {ns:List Int},IntsAre vs ns->Vals (ns.map V.int) vs
 |_,_,.nil=>.nil
 |_,_,.cons n t h=>.cons ⟨t,rfl⟩ (VI h)
def Only (H:Hp):Prop:=∀b,H b=none∨∃o xs,H b=some (.frz o (.lst xs))
theorem zgl {P:Program}{w:World}{K:PySem.W.Frag}{mg mb:Str->Option Value}{CX:CXT}{k:Nat}{fa a:Addr}{fd:FuncData}{x:Str}{sp:Sp}{s₁:Shared}{vs:List Value}{ns:List Int}
  (KX:K.In s₁.heap) (hns:s₁.heap.Ns mainGlobals mg) (hb:s₁.heap.Ns builtinsNs mb) (hbb:∀x:Str,x ≠ "__name__" -> mb x=bootBuiltins x) (hlim:s₁.heap.NoLimit) (hg:s₁.gens=#[])
  (ha:s₁.heap.get? a=some { cls:=.type "list",data:=.seq vs.toArray }) (hi:IntsAre vs ns) (hl:ns.length<=sizeLine) (hr:Room k callerA)
  (F:∀base:Heap,K.In base->base.Ns mainGlobals mg->FnOk P w K mg base CX k fa fd [x] sp) (hbind:∀(s:Shared) (u:Value),BindsTo s fd ⟨[u],[]⟩ [(x,u)])
  (hsp:∀H:Hp,Only H->SqL K H a (ns.map V.int)->sp [.ref a] H (λv _=>v=.bl true) λ_ _ _=>False)
  (hCX:∀H e s',CX [] H s₁ (λ_ _ _=>False) e s'->False) :
  codeAny (model P w) callerA (.call (.ref fa) ⟨[.ref a],[]⟩) (λr s'=>r=.ok (.ret (.bool true))/\OldK s₁.heap s'.heap/\s'.os=s₁.os/\AllBare s'.gens) s₁:=by
 have rv:=VI hi
 have lenV:=hi.length
 have core:∀H:Hp,Only H->SqL K H a (ns.map V.int)->HOk P w H s₁.heap->(∀b,H b≠none->b=a)->(H a≠none->K.lookup a=none) ->
   codeAny (model P w) callerA (.call (.ref fa) ⟨[.ref a],[]⟩) (λr s'=>r=.ok (.ret (.bool true))/\OldK s₁.heap s'.heap/\s'.os=s₁.os/\AllBare s'.gens) s₁:=by
  intro H hO hS hok hA hK
  have base_of:∀ {b:Addr} {o:Obj},s₁.heap.get? b=some o->H b=none->(hidT s₁.heap H).get? b=some o:=λe n=>zbn e n
  have noA:∀ {b:Addr} {o:Obj} {es:Array DictEntry} {ep:Nat},s₁.heap.get? b=some o->o.data=.dict es ep->H b=none:=fun {b o es ep} e d=>by
   cases q:H b with
   |none=>rfl
   |some u=>
    have e':b=a:=hA b (by rw[q];simp)
    subst e'
    rw[ha] at e;cases e
    have d':Data.seq vs.toArray _=Data.dict es ep:=d
    cases d'
  have nsK:∀ {b:Addr} {m:Str->Option Value},s₁.heap.Ns b m->(hidT s₁.heap H).Ns b m:=fun {b m} ⟨o,es,ep,e,d,r⟩=>⟨o,es,ep,base_of e (noA e d),d,r⟩
  have hKb:K.In (hidT s₁.heap H):=λb o e=>base_of (KX b o e) (by
   cases q:H b with
   |none=>rfl
   |some u=>
    have e':b=a:=hA b (by rw[q];simp)
    subst e'
    rw[hK (by rw[q];simp)] at e;cases e)
  have hM:Mod K mg (hidT s₁.heap H):=⟨hKb,nsK hns,⟨mb,nsK hb,hbb⟩,let ⟨mc,h1,h2⟩:=hlim;⟨mc,nsK h1,h2⟩⟩
  have e0:Env0 P w K mg (hidT s₁.heap H) callerA [] s₁ H:=⟨rfl,hM,λb o e=>zhg e,Nat.le_of_eq (Gr _ _),trivial,λb hb=>absurd (show b∈([]:List Addr) from hb) (by simp),hok,.of_eq hg⟩
  refine codeAny_mono ((F _ hKb (nsK hns)).run callerA [] s₁ H ⟨[.ref a],[]⟩ [.ref a] [.ref a] _ _ hr e0 (hbind s₁ (.ref a)) (.cons rfl .nil) (hsp H hO hS)) λr s' h=>?_
  cases r with
  |error e=>exact (hCX H e s' h).elim
  |ok fl=>
   cases fl with
   |next=>exact False.elim h
   |brk=>exact False.elim h
   |cont=>exact False.elim h
   |ret u=>
    obtain⟨v,H',os,bare,un,hok',r',q⟩:=h
    have q':v=.bl true:=q
    subst q'
    obtain rfl:u=Value.bool true:=r'
    refine⟨rfl,OldK.of_keep λb o e=>?_,os,bare⟩
    cases q:H b with
    |none=>exact un.keep b o e q (by intro z;exact absurd (show b∈([]:List Addr) from z) (by simp)) (by simp)
    |some u=>
     rcases hO b with z | ⟨ob,xs,z⟩
     ·rw[q] at z;cases z
     ·have z2:=un.frzs b ob _ z
      obtain⟨e1,_⟩:=hok b _ z
      obtain⟨e2,_⟩:=hok' b _ z2
      rw[e] at e1;cases e1
      exact e2
 cases hk:K.lookup a with
 |some o=>
  have e:=KX a o hk
  rw[ha] at e
  cases e
  refine core (λ_=>none) (λ_=>.inl rfl) (.inr ⟨_,vs.toArray,_,hk,rfl,rfl,rfl,by rw[List.size_toArray,lenV];exact hl,by simpa using rv⟩) (λb u z=>by have z':(none:Option HO)=some u:=z;cases z') (λb z=>absurd rfl z) λz=>absurd rfl z
 |none=>
  refine core (λb=>if b=a then some (.frz { cls:=.type "list",data:=.seq vs.toArray } (.lst (ns.map V.int))) else none) (λb=>?_) (.inl (.inr ⟨{ cls:=.type "list",data:=.seq vs.toArray },if_pos rfl⟩)) (λb u z=>?_) (λb z=>?_) λ_=>hk
  ·by_cases hb:b=a
   ·exact .inr ⟨_,_,if_pos hb⟩
   ·exact .inl (if_neg hb)
  ·by_cases hb:b=a
   ·have z':=(if_pos hb).symm.trans z
    cases z'
    subst hb
    exact⟨ha,by rw[List.length_map];exact hl,vs,_,rv,ha⟩
   ·have z':=(if_neg hb).symm.trans z
    cases z'
  ·by_cases hb:b=a
   ·exact hb
   ·exact absurd (if_neg hb) z
abbrev KOf {K:PySem.W.Frag}{h:Heap}(_:K.In h):PySem.W.Frag:=K
theorem walk_of {l:PySem.W.OpenLaw}{n k:Nat}{q:Program}{loose:List Str}{XP:(Str->Option Value)->Heap->Prop}{YP:World->Heap->Prop}{d:DefRec}{K:Params->PySem.W.Frag}{CX:World->CXT}{sp:World->Sp}{x:Str}
  (hn:l.most=some n) (hn2:n<=sizeLine) (hdf:d.params.defaults=[]) (hr:Room k callerA)
  (hY:∀(w:World) (h:Heap),YP w h->(K w.params).In h)
  (F:∀(w:World) (mg:Str->Option Value) (fa:Addr) (h:Heap),(K w.params).In h->h.Ns mainGlobals mg->mg d.name=some (.ref fa) ->
   ∃fd:FuncData,(∀(s:Shared) (u:Value),BindsTo s fd ⟨[u],[]⟩ [(x,u)]) /\
    ∀base:Heap,(K w.params).In base->base.Ns mainGlobals mg->FnOk l.prog w (K w.params) mg base (CX w) k fa fd [x] (sp w))
  (hsp:∀(w:World) (H:Hp) (a:Addr) (ns:List Int),ns.length<=n->Only H->SqL (K w.params) H a (ns.map V.int)->sp w [.ref a] H (λv _=>v=.bl true) λ_ _ _=>False)
  (hCX:∀(w:World) (H:Hp) (s:Shared) (e:Value) (s':Shared),CX w [] H s (λ_ _ _=>False) e s'->False) :
  PySem.W.WalkO q loose XP YP l.row.toRowW d [] (λf vs=>PySem.call f vs):=by
 refine Att.attach_call hn hdf λw s₀ s₁ mg mb fa o pm cd doc a vs ns G Y ho hd hcd hmg hobj hints hlen hg=>?_
 have KX:=hY w _ Y
 obtain⟨fd,hb,hF⟩:=F w mg fa _ KX G.T.g hmg
 exact zgl KX G.T.g G.T.b G.T.builtins G.T.nolimit hg hobj hints (Nat.le_trans hlen hn2) hr hF hb (λH hO hS=>hsp w H a ns hlen hO hS) λH e s'=>hCX w H s₁ e s'
end L2
namespace L2
open PySem PySem.Spec PyProof.Rows
def zJ (s:Stmt)(j:Nat):Stmt:=match s with
 |.ClassDef _ _ _ body _ _ _ _ _ _ _=>body.getD j (.Pass ⟨0,0,0,0⟩)
 |_=>.Pass ⟨0,0,0,0⟩
def zn (s:Stmt):Arguments:=match s with
 |.FunctionDef _ a _ _ _ _ _ _ _ _=>a
 |_=>{ posonlyargs:=[],args:=[],vararg:=none,kwonlyargs:=[],kw_defaults:=[],kwarg:=none,defaults:=[] }
def zk (s:Stmt):List Stmt:=match s with
 |.FunctionDef _ _ b _ _ _ _ _ _ _=>b
 |_=>[]
def zd (s:Stmt):Scope:=match s with
 |.FunctionDef _ _ _ _ _ _ sc _ _ _=>sc
 |_=>{ kind:=.function,names:=[],isGenerator:=false,isCoroutine:=false }
abbrev CX0:CXT:=λ_ _ _ _ _ _=>False
abbrev E0:XK:=λ_ _ _=>False
theorem pass0 {X:Cx}:Passes CX0 X E0:=λ_ _ _ _ _ _ _ h=>h.elim
structure Fun (K:PySem.W.Frag)(x qual:Str)(st:Stmt)(f:Addr)(fd:FuncData):Prop where
 ex:∃(oc:Value) (od:Option Addr) (kV doc pm:Value) (an:Option Addr) (cdv ct:Value) (osl:Array #[8]),
  fd=fnOf x qual (zn st) (zk st) (zd st) .none kV doc pm an cdv ct/\K.lookup f=some ⟨oc,od,.func fd,osl⟩/\codeIn K cdv qual=true
 kp:keepIn K (.ref f)=true
section
variable {P:Program}{w:World}{K:PySem.W.Frag}{mg:Str->Option Value}{base:Heap}
theorem Fun.ok {x qual:Str}{st:Stmt}{f:Addr}{fd:FuncData}{N ps:List Str}{k:Nat}{sp:Sp}(F:Fun K x qual st f fd)(S:FnScope N ps (zd st))(len:∀vs H Q E,sp vs H Q E->vs.length=ps.length)
  (hbody:∀(cdv:Value) (A:Around) (outer:List Env) (s:Shared) (H:Hp) (vs:List V) (Q:VK) (E:XK),Room k (A.deeper (envOfC qual (zd st) s.heap.objs.size f cdv))->sp vs H Q E ->
   ∃t,PSs (cxOf CX0 P w K mg base N qual (zd st) f cdv A outer s H E).nox (zk st) t/\t { nx:=λ_ H'=>Q .non H',rt:=Q } (start N vs) H):FnOk P w K mg base CX0 (k+1) f fd ps sp:=by
 obtain⟨oc,od,kV,doc,pm,an,cdv,ct,osl,rfl,lk,hcd⟩:=F.ex
 refine Zw lk hcd S len λA outer s H vs Q E hr hsp=>?_
 obtain⟨t,h,q⟩:=hbody cdv A outer s H vs Q E hr hsp
 exact⟨t,h.nox,q⟩
theorem Fun.binds {x qual:Str}{st:Stmt}{f:Addr}{fd:FuncData}{ps:List Str}(F:Fun K x qual st f fd)
  (h:∀(kV doc pm:Value) (an:Option Addr) (cdv ct:Value) (us:List Value),us.length=ps.length->bindArgs (fnOf x qual (zn st) (zk st) (zd st) .none kV doc pm an cdv ct) ⟨us,[]⟩=pure (ps.zip us)):Binds K fd ps []:=by
 obtain⟨oc,od,kV,doc,pm,an,cdv,ct,osl,rfl,lk,hcd⟩:=F.ex
 exact .all (h kV doc pm an cdv ct)
theorem zp {x qual:Str}{st:Stmt}{f:Addr}{oc:Value}{od an:Option Addr}{osl:Array #[8]}{kV doc pm cdv ct:Value}(l:K.lookup f=some ⟨oc,od,.func (fnOf x qual (zn st) (zk st) (zd st) .none kV doc pm an cdv ct),osl⟩)
  (c:codeIn K cdv qual=true) (k:keepIn K (.ref f)=true):Fun K x qual st f (fnOf x qual (zn st) (zk st) (zd st) .none kV doc pm an cdv ct):=⟨⟨oc,od,kV,doc,pm,an,cdv,ct,osl,rfl,l,c⟩,k⟩
end
section
variable {X:Cx}
theorem pv (i:Nat){x:Str}{pos:Pos}(hN:X.N[i]?=some x:=by rfl)(hv:Vis X.env.scope x:=by first | exact Or.inl rfl | exact Or.inr (Or.inl rfl) | exact Or.inr (Or.inr rfl))(hd:#[20]=false:=by decide)
  (hcd:(x==("__classdict__" : Str))=false:=by decide):PE X (.Name x pos) (tVar i):=YA hN hv hd hcd
end
theorem iteF {A B:Prop}(h:B):if false=true then A else B:=by
 rw[if_neg Bool.false_ne_true]
 exact h
theorem iteT {A B:Prop}(h:A):if true=true then A else B:=by
 rw[if_pos rfl]
 exact h
def Same (H H':Hp):Prop:=∀b o,H b=some o->H' b=some o
theorem Same.refl (H:Hp):Same H H:=λ_ _ h=>h
theorem Same.trans {H H1 H2:Hp}(a:Same H H1)(b:Same H1 H2):Same H H2:=λc o h=>b c o (a c o h)
theorem Same.free {H H':Hp}(e:Same H H'){l:Addr}(h:H' l=Option.none):H l=Option.none:=by
 cases q:H l with
 |none=>rfl
 |some o=>
  rw[e l o q] at h
  cases h
theorem Same.seq {K:PySem.W.Frag}{H H':Hp}{a:Addr}{xs:List V}(e:Same H H')(h:SqL K H a xs):SqL K H' a xs:=by
 rcases h with (h | ⟨o,h⟩) | h
 ·exact .inl (.inl (e _ _ h))
 ·exact .inl (.inr ⟨o,e _ _ h⟩)
 ·exact .inr h
end L2
namespace L3
open PySem PySem.Spec L2
open PyProof.Rows hiding St
section
variable {X:Cx}{pins:List (Addr×Obj)}{σ:St}{H H':Hp}{s:Shared}{h':Heap}
theorem qI {ch:List Addr}{t':Nat}(I:Inv X pins σ H s)(k:∀b o,b∉ch->s.heap.get? b=some o->h'.get? b=some o)(hf:∀b∈ch,FpOk X pins H b):Inv X pins σ H { s with heap:=h',toks:=t' }:=by
 have nit:∀b u,H b=some u->b∉ch:=λb u e z=>by rw[(hf b z).1] at e;cases e
 refine I.step (g':=s.gens) (d':=s.drawn) (ch:=ch) (λb hb=>?_) (λb o _ _ hc e _=>k b o hc e) (λb o _ _ hc e _=>⟨o.slots,k b o hc e⟩) (λ_ _ _ _ n=>n)
  (λb o hc e=>⟨o,k b o hc e⟩) (λ_ _ e=>e) (λ_ _ _ e=>e) (λb ps e=>⟨#[],by rw[e];simp⟩) (λm hm=>?_) (λb u e=>?_) I.bare
 ·obtain⟨_,f1,_,f3,f4,f5⟩:=hf b hb
  exact⟨f3,f1,f4,f5⟩
 ·obtain⟨o,es,ep,ho,r⟩:=hm
  exact⟨o,es,ep,k _ o (λz=>(hf _ z).2.1 rfl) ho,r⟩
 ·refine (I.hok b u e).stay (λc v hc q=>k c v ?_ q) (λ_ q=>q) λ_ _ q=>q
  rcases hc with z | z
  ·rw[z];exact nit b u e
  ·exact nit c _ z
theorem stepN {ch:List Addr}{t':Nat}{T:Addr}{o:HO}(I:Inv X pins σ H s)(k:∀b o,b∉ch->s.heap.get? b=some o->h'.get? b=some o)(hf:∀b∈ch,FpOk X pins H b)(hT:s.heap.objs.size<=T)
  (new:ObjOk X.prog X.w (upd H T o) h' T o):Inv X pins σ (upd H T o) { s with heap:=h',toks:=t' }:=by
 have nit:∀b u,H b=some u->b∉ch:=λb u e z=>by rw[(hf b z).1] at e;cases e
 have nT:H T=none:=I.hok.fresh hT
 refine I.step (g':=s.gens) (d':=s.drawn) (ch:=ch) (λb hb=>?_) (λb o _ _ hc e _=>k b o hc e) (λb o _ _ hc e _=>⟨o.slots,k b o hc e⟩) (λb u _ e n=>?_)
  (λb o hc e=>⟨o,k b o hc e⟩) (λb xs e=>by rw[zr (zH e nT)];exact e) (λb ob u e=>by rw[zr (zH e nT)];exact e) (λb ps e=>⟨#[],by rw[zr (zH e nT),e];simp⟩) (λm hm=>?_) (λb u e=>?_) I.bare
 ·obtain⟨_,f1,_,f3,f4,f5⟩:=hf b hb
  exact⟨f3,f1,f4,f5⟩
 ·rw[zr (Nat.ne_of_lt (Nat.lt_of_lt_of_le (Heap.lt_size e) hT))];exact n
 ·obtain⟨o,es,ep,ho,r⟩:=hm
  exact⟨o,es,ep,k _ o (λz=>(hf _ z).2.1 rfl) ho,r⟩
 ·by_cases hb:b=T
  ·subst hb;rw[zy] at e;cases e;exact new
  ·rw[zr hb] at e
   refine (I.hok b u e).stay (λc v hc q=>k c v ?_ q) (λc q=>by rw[zr (zH q nT)];exact q) λc xs q=>by rw[zr (zH q nT)];exact q
   rcases hc with z | z
   ·rw[z];exact nit b u e
   ·exact nit c _ z
end
def Ite (K:PySem.W.Frag)(a:Addr):It :=
 ⟨λi H=>∃xs x,SqL K H a xs/\xs[i]?=some x,λi H x H'=>∃T v,H T=none/\x=.ref T/\H'=upd H T (.tup [.int i,v])/\∀xs,SqL K H a xs->xs[i]?=some v,λi H=>∃xs,SqL K H a xs/\xs.length<=i⟩
theorem ze5 {P:Program}{w:World}{K:PySem.W.Frag}{elts:List Expr}{k:Nat}{pos:Pos}(a e it:Addr)(hne:e≠it) :
  Turn P w K (.Tuple elts k pos) (Ite K a) [e,it] e (λi h=>(∃old,IsEnum h e it i old)/\h.IsListIter it a i) where
 mem:=by simp
 obj:=λi h st b hb=>by
  obtain⟨⟨old,he⟩,o,e1,c,d⟩:=st
  rcases List.mem_cons.mp hb with rfl | hb
  ·exact⟨_,he,λv z=>by cases z⟩
  ·rw[List.mem_singleton.mp hb]
   exact⟨o,e1,λv z=>by rw[d] at z;cases z⟩
 keep:=λi h h' st k=>⟨let ⟨old,he⟩:=st.1;⟨old,k e (by simp) _ he⟩,st.2.at λo e=>k it (by simp) o e⟩
 item:=by
  intro X hP hw hK hc i pins s σ H E I hf st hg
  subst hP hw hK
  obtain⟨⟨old,he⟩,hit⟩:=st
  obtain⟨xs,x,hq,hx⟩:=hg
  obtain⟨its,rv,p,hz⟩:=I.list hq
  obtain⟨u,hu,ru⟩:=rv.get hx
  refine wpAny_pyNext_enum_item he hit p.isList (x:=u) (by simpa using hu) hne λh' ho hit' hT hsz hk=>⟨_,rfl,?_⟩
  refine wpAny_letOwnedTupleGo_enum ho λh'' he'' hs''=>?_
  have nT:H s.heap.objs.size=none:=I.hok.fresh (Nat.le_refl _)
  have hTe:s.heap.objs.size≠e:=Nat.ne_of_gt (Heap.lt_size he)
  refine⟨.ref s.heap.objs.size,upd H s.heap.objs.size (.tup [.int i,x]),stepN (s:=s) (t':=s.toks+1) (ch:=[e,it]) I (λb o hb q=>?_) hf (Nat.le_refl _) ?_,rfl,⟨_,x,nT,rfl,rfl,λys hy=>by rw[I.list_inj hy hq];exact hx⟩,⟨⟨_,by simpa using he''⟩,hit'.extBut hs''.extBut (Ne.symm hne)⟩,λb hb=>?_⟩
  ·have h1:b≠e:=λz=>hb (by simp[z])
   have h2:b≠it:=λz=>hb (by simp[z])
   exact hs''.extBut b o h1 (hk b o h1 h2 q)
  ·exact⟨(show 2<=sizeLine by decide),[.int i s.toks,u],.cons ⟨_,rfl⟩ (.cons ru .nil),⟨_,hs''.extBut _ _ hTe hT,rfl,_,rfl⟩⟩
  ·have hb':b≠s.heap.objs.size:=by
    rcases List.mem_cons.mp hb with rfl | hb
    ·exact Ne.symm hTe
    ·rw[List.mem_singleton.mp hb]
     obtain⟨o,e1,_⟩:=hit
     exact Nat.ne_of_lt (Heap.lt_size e1)
   rw[zr hb']
   exact (hf b hb).1
 done:=by
  intro X hP hw hK hc i pins s σ H E I hf st hg
  subst hP hw hK
  obtain⟨⟨old,he⟩,hit⟩:=st
  obtain⟨xs,hq,hx⟩:=hg
  obtain⟨its,rv,p,hz⟩:=I.list hq
  have hl:=rv.length
  refine wpAny_pyNext_enum_end (I.ok.hd hc) he hit p.isList #[18] λh' eb=>⟨rfl,qI (t':=s.toks) (ch:=[e,it]) I (λb o hb q=>eb b o (λz=>hb (by simp[z])) q) hf⟩
 self:=λ_ _ _ _ _ st h=>let ⟨_,he⟩:=st.1;wpAny_pyIter_enum he h
section
variable {X:Cx}{elts:List Expr}{tk:Nat}{tpos:Pos}
def iEnum (K:PySem.W.Frag)(ta:TA):TI:=λσ H R=>ta σ H λvs H1=>∃a,vs=[.ref a]/\(∃xs,SqL K H1 a xs)/\R (Ite K a) H1
theorem Rr {a:Expr}{ta:TA}{p pos:Pos}(hg:Gl X "enumerate") (hm:X.mg "enumerate" = none) (ha:PA X [a] ta) (hs:starEach [a] X.env=[(false,eval a X.env)]:=by rfl) :
  PI X (.Tuple elts tk tpos) (.Call (.Name "enumerate" p) [a] [] pos) (iEnum X.K ta):=by
 intro pins s σ H R I h
 refine Call_ (vG I hg hm (u:=.type "enumerate") #[13] (PyProof.Rows.callWith_type1 (thn (ha pos pins s σ H _ I h) λus s1 ⟨vs,H1,I1,r1,q1⟩=>?_) hs rfl))
 obtain⟨a,e,⟨xs,hq⟩,q⟩:=q1
 subst e
 obtain⟨u,rfl,ru⟩:=vals1 r1
 cases ru
 obtain⟨its,rv,pl,hz⟩:=I1.list hq
 refine call_enumerate_list pl.isList λh' he hit hsz hk=>wpAny_pyIter_enum he ?_
 have I2:Inv X pins σ H1 { s1 with heap:=h' }:=I1.kept (t':=s1.toks) hk
 refine⟨s1.heap.objs.size+1,[s1.heap.objs.size+1,s1.heap.objs.size],_,_,H1,rfl,I2,ze5 a _ _ (show ((s1.heap.objs.size+1:Nat)≠s1.heap.objs.size) by omega),⟨⟨_,he⟩,hit⟩,λb hb=>?_,q⟩
 have hb':s1.heap.objs.size<=b:=by
  rcases List.mem_cons.mp hb with rfl | hb
  ·exact Nat.le_succ _
  ·rw[List.mem_singleton.mp hb];exact Nat.le_refl _
 exact I1.fpOk hb' (I1.hok.fresh hb')
end
theorem QV {prog:Program}{w:World}{A:Around}{R:Result->Shared->Prop}{s:Shared}{elt target iter:Expr}{ifs:List Expr}{scope:Scope}{pos:Pos}{it acc:Value}{env:Env}(I:Nat->Shared->Prop)
  (turn:∀n s,I n s->wpAny #[19] A (pyNext it) (λr s₁=>match r with
   |none=>R (.ok .next) s₁
   |some v=>wpAny #[19] A (letOwnedTupleGo target it v) (λ_ s₁'=>wpAny #[19] A (assign target env v) (λ_ s₂=>
     wpAny #[19] A (forIn ifs true λc r=>if r=true then do let ok <-isTrue c env (eval c env);pure (ForInStep.yield ok) else pure (ForInStep.yield r)) (λok s₃=>
      if ok=true then wpAny #[19] A (eval elt env) (λx s₄=>
       wpAny #[19] A (call (.builtin "list.append") [acc,x]) (λ_ s₅=>∃m,m < n/\I m s₅) (λ_ _=>False) s₄) (λ_ _=>False) s₃
      else ∃m,m < n/\I m s₃) (λ_ _=>False) s₂) (λ_ _=>False) s₁') (λ_ _=>False) s₁) (λ_ _=>False) s)
  (n:Nat) (h:I n s):codeAny #[19] A (.compLoop (.ListComp elt [⟨target,iter,ifs,0⟩] scope pos) 0 it acc env) R s:=by
 refine codeAny_loop rfl I (λn s hI=>?_) n h
 show wpAny _ A ((compTurn (.ListComp elt [⟨target,iter,ifs,0⟩] scope pos) 0 it acc env).onRaise (λx=>do noteFrame x env;theTreesLotGoes x)) _ _ s
 refine wpAny_noted ?_
 rw[compTurn_list]
 refine wpAny_bind (wpAny_standAt (wpAny_bind (wpAny_mono (turn n s hI) (λr s₁ h₁=>?_) λ_ _ h'=>h'.elim)))
 cases r with
 |none=>exact wpAny_pure h₁
 |some v=>
  refine wpAny_bind (wpAny_mono h₁ (λ_ s₁' h₁'=>?_) λ_ _ h'=>h'.elim)
  refine wpAny_bind (wpAny_mono h₁' (λ_ s₂ h₂=>wpAny_bind (wpAny_mono h₂ (λok s₃ h₃=>?_) λ_ _ h'=>h'.elim)) λ_ _ h'=>h'.elim)
  cases ok with
  |false=>exact wpAny_pure ⟨rfl,h₃⟩
  |true=>
   exact wpAny_bind (wpAny_bind (wpAny_mono h₃ (λx s₄ h₄=>wpAny_bind (wpAny_mono h₄ (λ_ s₅ h₅=>wpAny_pure (wpAny_pure ⟨rfl,h₅⟩)) λ_ _ h'=>h'.elim)) λ_ _ h'=>h'.elim))
def clGo (cells:List (Str×Addr)):List (Str×NameKind)->List (Str×Addr)->List (Str×Addr)
 | [],cs=>cs
 | (n,k)::r,cs=>clGo cells r (if k==.free then (n,(cells.lookup n).getD 0)::cs else cs)
theorem WO {scope:Scope}{env:Env}(h:∀x∈scope.names,x.2=.free->∃c,env.cells.lookup x.1=some c):closureFor scope env=pure (clGo env.cells scope.names []):=by
 simp only[closureFor]
 have go:∀(l:List (Str×NameKind)) (cs:List (Str×Addr)),(∀x∈l,x.2=.free->∃c,env.cells.lookup x.1=some c) ->
   (forIn l cs λ(x:Str×NameKind) (r:List (Str×Addr))=>(if (x.2==NameKind.free)=true then do let a <-cellOf env x.1;pure (ForInStep.yield ((x.1,a)::r)) else pure (ForInStep.yield r):Sem (ForInStep (List (Str×Addr)))))=pure (clGo env.cells l cs):=by
  intro l
  induction l with
  |nil=>intro cs _;rfl
  |cons x r ih=>
   intro cs hx
   obtain⟨n,k⟩:=x
   rw[List.forIn_cons]
   by_cases hk:(k==NameKind.free)=true
   ·obtain⟨c,e⟩:=hx (n,k) List.mem_cons_self (by simpa using hk)
    have e':env.cells.lookup n=some c:=e
    have ec:cellOf env n=pure c:=by unfold cellOf;rw[e']
    simp only[hk,if_true,ec,pure_bind]
    rw[ih _ λy hy=>hx y (List.mem_cons_of_mem _ hy)]
    simp only[clGo,hk,if_true,e',Option.getD_some]
   ·simp only[hk,Bool.false_eq_true,if_false,pure_bind]
    rw[ih _ λy hy=>hx y (List.mem_cons_of_mem _ hy)]
    simp only[clGo,hk,Bool.false_eq_true,if_false]
 have:=go scope.names [] h
 simpa using this
theorem kt {cells:List (Str×Addr)}:∀(l:List (Str×NameKind)) (cs:List (Str×Addr)) (x:Str) (c:Addr),(∀y∈l,y.2=.free->∃c,cells.lookup y.1=some c)->(∀x c,cs.lookup x=some c->cells.lookup x=some c) ->
  (clGo cells l cs).lookup x=some c->cells.lookup x=some c
 | [],cs,x,c,_,h,e=>h x c e
 | (n,k)::r,cs,x,c,hl,h,e=>by
  refine kt r _ x c (λy hy=>hl y (List.mem_cons_of_mem _ hy)) (λy d=>?_) e
  by_cases hk:(k==NameKind.free)=true
  ·rw[if_pos hk]
   obtain⟨c',e'⟩:=hl (n,k) List.mem_cons_self (by simpa using hk)
   have e':cells.lookup n=some c':=e'
   intro q
   by_cases hy:y=n
   ·subst hy
    rw[List.lookup_cons_self] at q
    rw[<-q,e'];rfl
   ·rw[List.lookup_cons,beq_eq_false_iff_ne.mpr hy] at q
    exact h y d q
  ·rw[if_neg hk];exact h y d
theorem Ws {cells:List (Str×Addr)}:∀(l:List (Str×NameKind)) (cs:List (Str×Addr)) (x:Str),(cs.lookup x).isSome=true->((clGo cells l cs).lookup x).isSome=true
 | [],cs,x,h=>h
 | (n,k)::r,cs,x,h=>by
  refine Ws r _ x ?_
  by_cases hk:(k==NameKind.free)=true
  ·rw[if_pos hk]
   by_cases hy:x=n
   ·subst hy;rw[List.lookup_cons_self];rfl
   ·rw[List.lookup_cons,beq_eq_false_iff_ne.mpr hy];exact h
  ·rw[if_neg hk];exact h
theorem qZ {cells:List (Str×Addr)}:∀(l:List (Str×NameKind)) (cs:List (Str×Addr)) (x:Str),(x,NameKind.free)∈l->((clGo cells l cs).lookup x).isSome=true
 | [],cs,x,h=>by simp at h
 | (n,k)::r,cs,x,h=>by
  rcases List.mem_cons.mp h with e | h
  ·cases e
   exact Ws r _ _ (by rw[if_pos (show (NameKind.free==NameKind.free)=true from rfl),List.lookup_cons_self];rfl)
  ·exact qZ r _ x h
def cxc (X:Cx)(scope:Scope)(C:Addr)(N:List Str)(s₀:Shared)(H₀:Hp)(fp:List Addr)(pn:List (Addr×Obj)):Cx :=
 { X with N:=N,s₀:=s₀,H₀:=H₀,env:=compEnvC scope (clGo X.env.cells scope.names []) C X.env,outer:=X.stack,stack:=X.stack,ex:=fp,fn:=λ_=>false,pn:=pn,xe:=λ_ _=>False }
structure CompScope (X:Cx)(scope:Scope)(own:List Str)(cap:List (Str×Nat)):Prop where
 kind:scope.kind=.function
 nocell:∀y∈scope.names,y.2≠.cell
 names:∀y∈scope.names,y.2=.local->scope.names.lookup y.1=some .local
 frees:∀y∈scope.names,y.2=.free->X.env.kindOf y.1=some .cell∨X.env.kindOf y.1=some .free
 caps:∀p∈cap,scope.names.lookup p.1=some .free/\X.N[p.2]?=some p.1
theorem Y2 {env:Env}:∀ {names:List (Str×NameKind)} {x:Str} {k':NameKind},
  (names.map λ(n,k)=>if #[30] then (n,NameKind.cell) else (n,k)).lookup x=some k'->(k'=.cell∨k'=.free)->(∀y∈names,y.2≠.cell)->(x,NameKind.free)∈names
 | [],x,k',h,_,_=>by simp at h
 | (n,k)::r,x,k',h,hk,hc=>by
  have ih:=@Y2 env r x k'
  rw[List.map_cons] at h
  by_cases hq:#[30]=true
  ·simp only[hq,if_true] at h
   have kf:k=NameKind.free:=by
    simp only[Bool.and_eq_true,beq_iff_eq] at hq
    exact hq.1.1
   by_cases hx:x=n
   ·subst hx;subst kf;exact List.mem_cons_self
   ·rw[List.lookup_cons,beq_eq_false_iff_ne.mpr hx] at h
    exact List.mem_cons_of_mem _ (ih h hk λy hy=>hc y (List.mem_cons_of_mem _ hy))
  ·simp only[hq,if_false] at h
   by_cases hx:x=n
   ·subst hx
    have h':some k=some k':=by
     have:=h
     simp at this
     rw[this]
    cases h'
    rcases hk with z | z
    ·exact absurd z (hc (x,k) List.mem_cons_self)
    ·subst z;exact List.mem_cons_self
   ·have h2:List.lookup x (List.map (λ(n,k)=>if #[30] then (n,NameKind.cell) else (n,k)) r)=some k':=by
     simpa[List.lookup_cons,beq_eq_false_iff_ne.mpr hx] using h
    exact List.mem_cons_of_mem _ (ih h2 hk λy hy=>hc y (List.mem_cons_of_mem _ hy))
theorem Yk {env:Env}:∀ {names:List (Str×NameKind)} {x:Str},names.lookup x=some .free ->
  (names.map λ(n,k)=>if #[30] then (n,NameKind.cell) else (n,k)).lookup x=some .cell ∨
  (names.map λ(n,k)=>if #[30] then (n,NameKind.cell) else (n,k)).lookup x=some .free
 | [],x,h=>by simp at h
 | (n,k)::r,x,h=>by
  have ih:=@Yk env r x
  rw[List.map_cons]
  by_cases hx:x=n
  ·subst hx
   rw[List.lookup_cons_self] at h
   cases h
   by_cases hq:(NameKind.free==NameKind.free&&env.scope.kind==.function&&env.kindOf x==some .cell)=true
   ·left;simp only[hq,if_true,List.lookup_cons_self]
   ·right;simp only[hq,if_false];simp
  ·rw[List.lookup_cons,beq_eq_false_iff_ne.mpr hx] at h
   by_cases hq:#[30]=true
   ·simp only[hq,if_true,List.lookup_cons,beq_eq_false_iff_ne.mpr hx];exact ih h
   ·have e:(if #[30]=true then (n,NameKind.cell) else (n,k))=(n,k):=if_neg hq
    simp only[e,List.lookup_cons,beq_eq_false_iff_ne.mpr hx];exact ih h
theorem kY {names:List (Str×NameKind)}{x:Str}{k:NameKind}(h:names.lookup x=some k):(x,k)∈names:=PySem.mem_of_lookup h
theorem Wx {X:Cx}{scope:Scope}{own:List Str}{cap:List (Str×Nat)}(S:CompScope X scope own cap){pins:List (Addr×Obj)}{σ:St}{H:Hp}{s:Shared}{C:Addr}{fp:List Addr}(I:Inv X pins σ H s)(hC:s.heap.objs.size<=C)(hf:∀b∈fp,FpOk X pins H b)(hlt:∀b∈fp,b < s.heap.objs.size){N:List Str}{pn:List (Addr×Obj)} :
  (cxc X scope C N s H fp pn).Ok:=by
 have hfr:∀y∈scope.names,y.2=.free->∃c,X.env.cells.lookup y.1=some c:=λy hy hk=>I.ok.has y.1 (S.frees y hy hk)
 have sub:∀x c,(clGo X.env.cells scope.names []).lookup x=some c->X.env.cells.lookup x=some c:=λx c=>kt _ _ x c hfr (λx c e=>by simp at e)
 refine⟨I.ok.mod,S.kind,I.ok.glob,I.ok.blt,hC,λx y c h1 h2=>I.ok.inj x y c (sub _ _ h1) (sub _ _ h2),λx hx=>?_,λx c h=>(by cases h),I.ok.hd,I.ok.frames,.inl rfl,λb hb=>⟨Nat.ne_of_lt (Nat.lt_of_lt_of_le (hlt b hb) hC),λx c e=>(hf b hb).2.2.2.2.1 x c (sub x c e)⟩,I.bs,Nat.le_trans I.ok.bsz I.sz,λb o e hb=>?_,λb hb z=>?_,I.stack,I.stkFree⟩
 ·have hx':(x,NameKind.free)∈scope.names:=by
   rcases hx with z | z
   ·exact Y2 (env:=X.env) z (.inl rfl) S.nocell
   ·exact Y2 (env:=X.env) z (.inr rfl) S.nocell
  exact Option.isSome_iff_exists.mp (qZ scope.names [] x hx')
 ·rcases (hf b hb).2.2.2.1 with z | z
  ·exact I.ok.noex b o e z
  ·exact absurd (Nat.lt_of_lt_of_le (Heap.lt_size (I.ok.bs b o e).1) z) (Nat.lt_irrefl _)
 ·rcases List.mem_cons.mp (I.stkSub b z) with q | q
  ·exact (hf b hb).2.1 q
  ·exact (hf b hb).2.2.1 q
def tComp (wi:TI)(own:List Str)(cap:List (Str×Nat))(g:TG)(tc:TT)(te:TE):TE:=λσ H Q=>wi σ H λJ H1=>∃W:Nat->Nat->List V->Hp->Prop,(∃m,W 0 m [] H1)/\∀i m ys H,W i m ys H ->
 ys.length<=sizeLine/\((J.stop i H/\∀D,H D=none->Q (.ref D) (upd H D (.lst ys)))∨(J.go i H/\∃N:List V->Hp->Prop,(∀ys' H',N ys' H'->∃m',m' < m/\W (i+1) m' ys' H') /\
  ∀x H',J.yld i H x H'->∀σ1:St,σ1.length=own.length->g x (σ1++cap.map λp=>(σ[p.2]?).getD none) H' λσ2 H2=>(∃σ1':St,σ1'.length=own.length/\σ2=σ1'++cap.map λp=>(σ[p.2]?).getD none) /\
   tc σ2 H2 λb H3=>if b=true then te σ2 H3 λy H4=>N (ys++[y]) H4 else N ys H3))
def PIfs (X:Cx)(ifs:List Expr)(tc:TT):Prop :=
 ∀(pins:List (Addr×Obj)) (s:Shared) (σ:St) (H:Hp) (Q:Bool->Hp->Prop),Inv X pins σ H s->tc σ H Q ->
  wpAny #[9] X.A (forIn ifs true λc r=>if r=true then do let ok <-isTrue c X.env (eval c X.env);pure (ForInStep.yield ok) else pure (ForInStep.yield r)) (TP X pins σ Q) X.xe s
def tTrue:TT:=λ_ H Q=>Q true H
theorem RD {X:Cx}:PIfs X [] tTrue:=λpins s σ H Q I h=>wpAny_tests_nil ⟨H,I,h⟩
theorem zac {X:Cx}{c:Expr}{tc:TT}(h:PT X c tc):PIfs X [c] tc:=λpins s σ H Q I hq=>wpAny_tests_one (h pins s σ H Q I hq)
theorem Wt {fs ex:List Addr}{H0 H:Hp}{h0 h h':Heap}{D C:Addr}{o:HO}(u:Un fs ex H0 H h0 h)(hD:h0.objs.size<=D)(hC:h0.objs.size<=C)(sb:Heap.SameBut C h h')(n:H D=none):Un fs ex H0 (upd H D o) h0 h':=by
 have ne:∀b ob,h0.get? b=some ob->b≠C:=λb ob e=>Nat.ne_of_lt (Nat.lt_of_lt_of_le (Heap.lt_size e) hC)
 have nd:∀b ob,h0.get? b=some ob->b≠D:=λb ob e=>Nat.ne_of_lt (Nat.lt_of_lt_of_le (Heap.lt_size e) hD)
 refine⟨λb ob e q hb hx=>(sb.2 b (ne b ob e)).trans (u.keep b ob e q hb hx),λb ob e q hb hx=>?_,λb ob e q hx=>?_,λb ob e hx=>?_,λb xs e=>?_,λb ob xs e=>?_,λb ps e=>?_⟩
 ·obtain⟨sl,z⟩:=u.slot b ob e q hb hx
  exact⟨sl,(sb.2 b (ne b ob e)).trans z⟩
 ·rw[zr (nd b ob e)];exact u.free b ob e q hx
 ·obtain⟨o',z⟩:=u.there b ob e hx
  exact⟨o',(sb.2 b (ne b ob e)).trans z⟩
 ·have z:=u.tups b xs e
  rw[zr (zH z n)];exact z
 ·have z:=u.frzs b ob xs e
  rw[zr (zH z n)];exact z
 ·obtain⟨m,z⟩:=u.tbls b ps e
  exact⟨m,by rw[zr (zH z n)];exact z⟩
theorem K7 {X:Cx}{elt tg iter:Expr}{ifs:List Expr}{scope:Scope}{pos:Pos}{own:List Str}{cap:List (Str×Nat)}{wi:TI}{g:TG}{tc:TT}{te:TE}(hc:X.calm=true)(S:CompScope X scope own cap)(hi:PI X tg iter wi)
  (hin:∀C s₀ H₀ fp pn,PG #[27] tg g/\PIfs #[27] ifs tc/\PE #[27] elt te)
  (hs:∀x,foldedSetIterable iter X.env x=pure x:=by intro _;rfl) :
  PE X #[28] (tComp wi own cap g tc te):=by
 intro pins s σ H Q I h
 rw[eval_ListComp]
 have hfr:∀y∈scope.names,y.2=.free->∃c,X.env.cells.lookup y.1=some c:=λy hy hk=>I.ok.has y.1 (S.frees y hy hk)
 refine wpAny_comprehension_free (use:=none) rfl hs (WO hfr) S.kind S.names (thn (hi pins s σ H _ I h) λxv s₁ h₁=>thn h₁ λit s₂ h₂=>?_)
 obtain⟨it,fp,tn,J,H2,rfl,I2,T,st2,f2,W,⟨m0,w0⟩,turn⟩:=h₂
 refine wpAny_newObj_type (wpAny_newFunctionEnv S.nocell (by intro y hy;simp at hy) (λh₁ hns₁ hsb₁=>?_) S.kind)
 dsimp only at hns₁ hsb₁ ⊢
 generalize hH3:s₂.heap.push { cls:=.type "list",dict:=none,data:=.seq ([]:List Value).toArray }=h3 at hns₁ hsb₁ ⊢
 have hC:h3.objs.size=s₂.heap.objs.size+1:=by rw[<-hH3,Heap.size_push]
 have flt:∀b∈fp,b < s₂.heap.objs.size:=λb hb=>let ⟨o,e,_⟩:=T.obj _ _ st2 b hb;Heap.lt_size e
 have old:∀b o,s₂.heap.get? b=some o->h₁.get? b=some o:=λb o e=>hsb₁.extBut b o (by rw[hC];exact Nat.ne_of_lt (Nat.lt_succ_of_lt (Heap.lt_size e))) (Heap.get?_push_of_some _ (hH3 ▸ Heap.get?_push_of_some _ e))
 have hDC:s₂.heap.objs.size≠h3.objs.size:=by rw[hC];exact Nat.ne_of_lt (Nat.lt_succ_self _)
 have hacc:h₁.get? s₂.heap.objs.size=some { cls:=.type "list",data:=.seq ([]:List Value).toArray }:=hsb₁.extBut _ _ hDC (Heap.get?_push_of_some _ (hH3 ▸ Heap.get?_push_size _ rfl))
 generalize hD:s₂.heap.objs.size=D at hacc hDC
 have hCle:s₂.heap.objs.size<=h3.objs.size:=by rw[hC];exact Nat.le_succ _
 generalize hCC:h3.objs.size=C at *
 have ok:#[23].Ok:=Wx S I2 hCle f2 flt
 have sub:∀x c,(clGo X.env.cells scope.names []).lookup x=some c->X.env.cells.lookup x=some c:=λx c=>kt _ _ x c hfr (λx c e=>by simp at e)
 obtain⟨hG,hT,hE⟩:=hin C s₂ H2 fp (X.pn++pins)
 have fl:∀ {α:Type} {t:Sem α} {Q:α->Shared->Prop} {E:Value->Shared->Prop} {s:Shared},wpAny #[9] X.A t Q (λ_ _=>False) s->wpAny #[9] X.A t Q E s:=λh=>wpAny_mono h (λ_ _ q=>q) λ_ _ f=>f.elim
 have dn:D∉frs X.stack:=λz=>by
  rcases List.mem_cons.mp (I2.stkSub D z) with q | q
  ·exact absurd I2.lt (by rw[<-q,hD];exact Nat.lt_irrefl _)
  ·exact I2.nofs (Nat.le_of_eq hD) q
 have pnl:∀p∈X.pn++pins,p.1 < s₂.heap.objs.size:=λp hp=>Heap.lt_size (I2.pin p hp).1
 have celt:∀x c,(clGo X.env.cells scope.names []).lookup x=some c->c < s₂.heap.objs.size:=λx c e=>let ⟨v,q⟩:=I2.cell x c (sub x c e);q.lt
 have hDle:s₂.heap.objs.size<=D:=Nat.le_of_eq hD
 have I0:Inv #[23] [(D,{ cls:=.type "list",data:=.seq ([]:List Value).toArray })] (List.replicate own.length none++cap.map λp=>(σ[p.2]?).getD none) H2 { s₂ with heap:=h₁,toks:=s₂.toks+([]:List (Str×Value)).length }:=by
  refine⟨ok,rfl,I2.bare,Un.kept old,⟨_,hns₁,λi x v e1 e2 e3=>?_⟩,λx c e=>?_,I2.hok.fresh hCle,λx c e=>I2.freeC x c (sub x c e),λp hp=>?_,I2.hok.kept old,?_⟩
  ·by_cases hi:i < own.length
   ·rw[List.getElem?_append_left (by simpa using hi),List.getElem?_replicate] at e2
    rw[if_pos hi] at e2
    cases e2
   ·have e1:(own++cap.map (·.1))[i]?=some x:=e1
    rw[List.getElem?_append_right #[1],List.getElem?_map] at e1
    rw[List.getElem?_append_right (by simpa using hi),List.length_replicate,List.getElem?_map] at e2
    cases q:cap[i - own.length]? with
    |none=>rw[q] at e1;cases e1
    |some p=>
     rw[q] at e1 e2
     have e1:p.1=x:=Option.some.inj e1
     have e2:(σ[p.2]?).getD none=some v:=Option.some.inj e2
     obtain⟨c1,c2⟩:=S.caps p (List.mem_of_getElem? q)
     have e2':σ[p.2]?=some (some v):=by
      cases q2:σ[p.2]? with
      |none=>rw[q2] at e2;cases e2
      |some w=>rw[q2] at e2;rw[show w=some v from e2]
     have hk:=S.frees (p.1,.free) (kY c1) rfl
     obtain⟨m,hn,hl⟩:=I2.loc
     obtain⟨u,ru,lk⟩:=hl p.2 p.1 v c2 e2' (.inr hk)
     refine⟨u,ru,.inr ?_⟩
     rcases lk with⟨k1,_⟩ | ⟨_,c,ec,hcell⟩
     ·rcases hk with z | z
      ·rw[k1] at z;cases z
      ·rw[k1] at z;cases z
     ·subst e1
      refine⟨Yk (env:=X.env) c1,?_⟩
      obtain⟨c',ec'⟩:=Option.isSome_iff_exists.mp (qZ (cells:=X.env.cells) scope.names [] p.1 (kY c1))
      have z:=sub _ _ ec'
      rw[ec] at z;cases z
      obtain⟨o,ho,hd⟩:=hcell
      exact⟨c,ec',o,old c o ho,hd⟩
  ·obtain⟨v,o,ho,hd⟩:=I2.cell x c (sub x c e)
   exact⟨v,o,old c o ho,hd⟩
  ·rcases List.mem_append.mp (show p∈(X.pn++pins)++[(D,_)] from hp) with hp | hp
   ·obtain⟨q1,q2,q3,q4,q5⟩:=I2.pin p hp
    refine⟨old _ _ q1,q2,Nat.ne_of_lt (Nat.lt_of_lt_of_le (Heap.lt_size q1) hCle),λz=>?_,q5⟩
    rcases List.mem_cons.mp (I2.stkSub p.1 z) with q | q
    ·exact q3 q
    ·exact q4 q
   ·rw[List.mem_singleton.mp hp]
    exact⟨hacc,I2.hok.fresh hDle,hDC,dn,λv z=>by cases z⟩
  ·show (List.replicate own.length none++cap.map _).length=(own++cap.map _).length
   simp
 have stat:∀ {H':Hp} {pl:List (Addr×Obj)},(∀p∈pl,p.1=D∨p.1∈fp->p.1=D)->(∀b∈fp,H' b=none)->∀b∈fp,FpOk #[23] pl H' b:=by
  intro H' pl hpl hn b hb
  refine⟨hn b hb,Nat.ne_of_lt (Nat.lt_of_lt_of_le (flt b hb) hCle),λz=>?_,.inl hb,λx c e=>(f2 b hb).2.2.2.2.1 x c (sub x c e),λp hp=>?_⟩
  ·rcases List.mem_cons.mp (I2.stkSub b z) with q | q
   ·exact (f2 b hb).2.1 q
   ·exact (f2 b hb).2.2.1 q
  ·rcases List.mem_append.mp (show p∈(X.pn++pins)++pl from hp) with hp | hp
   ·exact (f2 b hb).2.2.2.2.2 p hp
   ·intro z
    have:=hpl p hp (.inr (z ▸ hb))
    rw[z] at this
    exact absurd (flt b hb) (by rw[this,hD];exact Nat.lt_irrefl _)
 have loop:∀s₃:Shared,s₃={ s₂ with heap:=h₁,toks:=s₂.toks+([]:List (Str×Value)).length } ->
   codeAny #[9] X.A (.compLoop #[28] 0 (.ref it) (.ref D) (compEnvC scope (clGo X.env.cells scope.names []) C X.env)) (compPost #[9] X.A X.xe none (EP X pins σ Q) (.ref D) C) s₃:=by
  rintro s₃ rfl
  refine QV (λn s'=>∃i ys its k σ1 H',Inv #[23] [(D,{ cls:=.type "list",data:=.seq (List.toArray its) k })] (σ1++cap.map λp=>(σ[p.2]?).getD none) H' s'/\σ1.length=own.length/\Vals ys its/\tn i s'.heap/\(∀b∈fp,H' b=none)/\W i n ys H') ?_ m0
   ⟨0,[],[],0,_,H2,I0,by simp,.nil,T.keep _ _ _ st2 λb hb o e=>old b o e,λb hb=>(f2 b hb).1,w0⟩
  rintro n s' ⟨i,ys,its,k,σ1,H',J1,hσ,rv,st1,fr1,w1⟩
  obtain⟨hsz,⟨stop,qn⟩ | ⟨go,N,hN,step⟩⟩:=turn i n ys H' w1
  ·refine thn (T.done #[23] rfl rfl rfl hc i _ s' _ H' (λ_ _=>False) J1 (stat (by intro p hp _;rw[List.mem_singleton.mp hp]) fr1) st1 stop) λr s4 ⟨hr,I4⟩=>?_
   subst hr
   obtain⟨m4,hn4,_⟩:=I4.loc
   refine⟨m4,hn4,λh' sb=>?_⟩
   obtain⟨pD1,pD2,pD3,pD4,pD5⟩:=I4.pin (D,_) (List.mem_append_right _ List.mem_cons_self)
   have u:=Wt (o:=.lst ys) I4.base hDle hCle sb pD2
   refine⟨.ref D,upd H' D (.lst ys),I2.call' (s':={ s4 with heap:=h' }) (ch:=fp) I4.os u ?_ I4.bare λb hb=>?_,rfl,qn D pD2⟩
   ·intro b ob e
    by_cases hb:b=D
    ·subst hb
     rw[zy] at e;cases e
     exact⟨hsz,its,k,rv,(sb.2 _ pD3).trans pD1⟩
    ·rw[zr hb] at e
     refine (I4.hok b ob e).stay (λc v hc' q=>(sb.2 c ?_).trans q) (λc q=>by rw[zr (zH q pD2)];exact q) λc xs q=>by rw[zr (zH q pD2)];exact q
     have hCn:H' C=none:=I4.free
     rcases hc' with z | z
     ·rw[z];exact zH e hCn
     ·exact zH z hCn
   ·obtain⟨q1,q2,q3,q4,q5,q6⟩:=f2 b hb
    exact⟨q4,q2,q5,q6⟩
  ·refine thn (T.item #[23] rfl rfl rfl hc i _ s' _ H' (λ_ _=>False) J1 (stat (by intro p hp _;rw[List.mem_singleton.mp hp]) fr1) st1 go) λr s4 ⟨u,hr,h4⟩=>?_
   subst hr
   refine thn h4 λ_ s5 ⟨x,H5,I5,r5,y5,st5,fr5⟩=>?_
   have I5':=I5.pinned (stat (by intro p hp _;rw[List.mem_singleton.mp hp]) fr5) (T.obj _ _ st5)
   refine thn (hG _ s5 _ H5 x u _ I5' r5 (step x H5 y5 σ1 hσ)) λ_ s6 ⟨σ6,H6,I6,⟨σ1',l6,e6⟩,q6⟩=>?_
   subst e6
   refine thn (hT _ s6 _ H6 _ I6 q6) λok s7 ⟨H7,I7,q7⟩=>?_
   have again:∀ {s8:Shared} {H8:Hp} {ys8:List V} {its8:List Value} {k8:Nat},Inv #[23] ([(D,{ cls:=.type "list",data:=.seq (List.toArray its8) k8 })]++pinsAt fp s5.heap) (σ1'++cap.map λp=>(σ[p.2]?).getD none) H8 s8->Vals ys8 its8->N ys8 H8 ->
     ∃m,m < n/\∃i ys its k σ1 H',Inv #[23] [(D,{ cls:=.type "list",data:=.seq (List.toArray its) k })] (σ1++cap.map λp=>(σ[p.2]?).getD none) H' s8/\σ1.length=own.length/\Vals ys its/\tn i s8.heap/\(∀b∈fp,H' b=none)/\W i m ys H':=by
    intro s8 H8 ys8 its8 k8 I8 rv8 n8
    obtain⟨m',hm,w8⟩:=hN ys8 H8 n8
    refine⟨m',hm,i+1,ys8,its8,k8,σ1',H8,I8.unpinned,l6,rv8,T.keep _ _ _ st5 λb hb o e=>(I8.pin (b,o) (List.mem_append_right _ (List.mem_append_right _ (vQ hb e)))).1,λb hb=>?_,w8⟩
    obtain⟨o,e,d⟩:=T.obj _ _ st5 b hb
    exact (I8.pin (b,o) (List.mem_append_right _ (List.mem_append_right _ (vQ hb e)))).2.1
   cases ok with
   |false=>exact again I7 rv q7
   |true=>
    refine thn (hE _ s7 _ H7 _ I7 q7) λy s8 ⟨v8,H8,I8,r8,q8⟩=>?_
    obtain⟨pD1,pD2,pD3,pD4,pD5⟩:=I8.pin (D,_) (List.mem_append_right _ List.mem_cons_self)
    have hsz':its.toArray.size<=sizeLine:=by rw[List.size_toArray,<-rv.length];exact hsz
    refine wpAny_list_append_plain (hsz:=hsz') (items:=its.toArray) ⟨k,pD1⟩ λh9 pl9 sb9=>?_
    obtain⟨k9,e9⟩:=pl9
    have ea:its.toArray.push y=(its++[y]).toArray:=by simp
    rw[ea] at e9
    have I8':Inv #[23] (pinsAt fp s5.heap) (σ1'++cap.map λp=>(σ[p.2]?).getD none) H8 s8:=I8.pins_of λp hp=>I8.pin p (List.mem_append_right _ (List.mem_append_right _ hp))
    have fD:FpOk #[23] (pinsAt fp s5.heap) H8 D:=by
     refine⟨pD2,pD3,pD4,.inr hDle,λx c e z=>?_,λp hp z=>?_⟩
     ·exact absurd (celt x c e) (by rw[z,hD];exact Nat.lt_irrefl _)
     ·rcases List.mem_append.mp (show p∈(X.pn++pins)++_ from hp) with hp | hp
      ·exact absurd (pnl p hp) (by rw[z,hD];exact Nat.lt_irrefl _)
      ·exact absurd (flt p.1 (ZI hp).1) (by rw[z,hD];exact Nat.lt_irrefl _)
    have I9:Inv #[23] (pinsAt fp s5.heap) (σ1'++cap.map λp=>(σ[p.2]?).getD none) H8 { s8 with heap:=h9 }:=qI (t':=s8.toks) (ch:=[D]) I8' (λb o hb e=>(sb9.2 b λz=>hb (by simp[z])).trans e) λb hb=>by rw[List.mem_singleton.mp hb];exact fD
    have I10:Inv #[23] ([(D,{ cls:=.type "list",data:=.seq (its++[y]).toArray k9 })]++pinsAt fp s5.heap) (σ1'++cap.map λp=>(σ[p.2]?).getD none) H8 { s8 with heap:=h9 }:=I9.pins_of λp hp=>by
     rcases List.mem_append.mp hp with hp | hp
     ·rw[List.mem_singleton.mp hp]
      exact⟨e9,pD2,pD3,pD4,λv z=>by cases z⟩
     ·exact I9.pin p (List.mem_append_right _ hp)
    exact again (s8:={ s8 with heap:=h9 }) I10 (rv.append (.cons r8 .nil)) q8
 subst hD
 exact codeAny_compStart_list (loop _ rfl) (T.self _ 0 _ _ _ (T.keep _ _ _ st2 λb hb o e=>old b o e) (loop _ rfl))
theorem zdf {X:Cx}{i:Nat}{y:Str}{py spos:Pos}{elt tg iter:Expr}{ifs:List Expr}{scope:Scope}{pos:Pos}{own:List Str}{cap:List (Str×Nat)}{wi:TI}{g:TG}{tc:TT}{te:TE}(hc:X.calm=true)(S:CompScope X scope own cap)(hi:PI X tg iter wi)
  (hin:∀C s₀ H₀ fp pn,PG #[27] tg g/\PIfs #[27] ifs tc/\PE #[27] elt te)
  (hN:X.N.Nodup) (hiy:X.N[i]?=some y) (hy:Loc X.env.scope y) (hsw:swapsWith #[28] (some (.Name y py)) spos.line X.env=pure true)
  (hs:∀x,foldedSetIterable iter X.env x=pure x:=by intro _;rfl) (hfn:X.fn y=true∨X.env.scope.names.lookup y=some .local:=by first | exact .inl rfl | exact .inr rfl | assumption) :
  PS X (.Assign [.Name y py] #[28] spos) (tAsg (tComp wi own cap g tc te) (gName i)):=by
 intro pins s σ H Dn I h
 rw[exec_Assign_Name_used _ _ _ _ hsw]
 refine wpAny_bind (wpAny_standAt (wpAny_bind ?_))
 show wpAny _ X.A (do let _ <-comprehension #[28] scope X.env _ (newList []) false (eval iter X.env) (some (assign (.Name y py) X.env))) _ _ s
 have hfr:∀y∈scope.names,y.2=.free->∃c,X.env.cells.lookup y.1=some c:=λy hy hk=>I.ok.has y.1 (S.frees y hy hk)
 refine wpAny_bind (wpAny_mono (wpAny_comprehension_free (use:=some (assign (.Name y py) X.env)) (Q:=λ_ s'=>SP X pins Dn .next s') rfl hs (WO hfr) S.kind S.names (thn (hi pins s σ H _ I h) λxv s₁ h₁=>thn h₁ λit s₂ h₂=>?_)) (λ_ s' hq=>wpAny_pure (wpAny_pure hq)) λ_ _ e=>e)
 obtain⟨it,fp,tn,J,H2,rfl,I2,T,st2,f2,W,⟨m0,w0⟩,turn⟩:=h₂
 refine wpAny_newObj_type (wpAny_newFunctionEnv S.nocell (by intro y hy;simp at hy) (λh₁ hns₁ hsb₁=>?_) S.kind)
 dsimp only at hns₁ hsb₁ ⊢
 generalize hH3:s₂.heap.push { cls:=.type "list",dict:=none,data:=.seq ([]:List Value).toArray }=h3 at hns₁ hsb₁ ⊢
 have hC:h3.objs.size=s₂.heap.objs.size+1:=by rw[<-hH3,Heap.size_push]
 have flt:∀b∈fp,b < s₂.heap.objs.size:=λb hb=>let ⟨o,e,_⟩:=T.obj _ _ st2 b hb;Heap.lt_size e
 have old:∀b o,s₂.heap.get? b=some o->h₁.get? b=some o:=λb o e=>hsb₁.extBut b o (by rw[hC];exact Nat.ne_of_lt (Nat.lt_succ_of_lt (Heap.lt_size e))) (Heap.get?_push_of_some _ (hH3 ▸ Heap.get?_push_of_some _ e))
 have hDC:s₂.heap.objs.size≠h3.objs.size:=by rw[hC];exact Nat.ne_of_lt (Nat.lt_succ_self _)
 have hacc:h₁.get? s₂.heap.objs.size=some { cls:=.type "list",data:=.seq ([]:List Value).toArray }:=hsb₁.extBut _ _ hDC (Heap.get?_push_of_some _ (hH3 ▸ Heap.get?_push_size _ rfl))
 generalize hD:s₂.heap.objs.size=D at hacc hDC
 have hCle:s₂.heap.objs.size<=h3.objs.size:=by rw[hC];exact Nat.le_succ _
 generalize hCC:h3.objs.size=C at *
 have ok:#[23].Ok:=Wx S I2 hCle f2 flt
 have sub:∀x c,(clGo X.env.cells scope.names []).lookup x=some c->X.env.cells.lookup x=some c:=λx c=>kt _ _ x c hfr (λx c e=>by simp at e)
 obtain⟨hG,hT,hE⟩:=hin C s₂ H2 fp (X.pn++pins)
 have fl:∀ {α:Type} {t:Sem α} {Q:α->Shared->Prop} {E:Value->Shared->Prop} {s:Shared},wpAny #[9] X.A t Q (λ_ _=>False) s->wpAny #[9] X.A t Q E s:=λh=>wpAny_mono h (λ_ _ q=>q) λ_ _ f=>f.elim
 have dn:D∉frs X.stack:=λz=>by
  rcases List.mem_cons.mp (I2.stkSub D z) with q | q
  ·exact absurd I2.lt (by rw[<-q,hD];exact Nat.lt_irrefl _)
  ·exact I2.nofs (Nat.le_of_eq hD) q
 have pnl:∀p∈X.pn++pins,p.1 < s₂.heap.objs.size:=λp hp=>Heap.lt_size (I2.pin p hp).1
 have celt:∀x c,(clGo X.env.cells scope.names []).lookup x=some c->c < s₂.heap.objs.size:=λx c e=>let ⟨v,q⟩:=I2.cell x c (sub x c e);q.lt
 have hDle:s₂.heap.objs.size<=D:=Nat.le_of_eq hD
 have I0:Inv #[23] [(D,{ cls:=.type "list",data:=.seq ([]:List Value).toArray })] (List.replicate own.length none++cap.map λp=>(σ[p.2]?).getD none) H2 { s₂ with heap:=h₁,toks:=s₂.toks+([]:List (Str×Value)).length }:=by
  refine⟨ok,rfl,I2.bare,Un.kept old,⟨_,hns₁,λi x v e1 e2 e3=>?_⟩,λx c e=>?_,I2.hok.fresh hCle,λx c e=>I2.freeC x c (sub x c e),λp hp=>?_,I2.hok.kept old,?_⟩
  ·by_cases hi:i < own.length
   ·rw[List.getElem?_append_left (by simpa using hi),List.getElem?_replicate] at e2
    rw[if_pos hi] at e2
    cases e2
   ·have e1:(own++cap.map (·.1))[i]?=some x:=e1
    rw[List.getElem?_append_right #[1],List.getElem?_map] at e1
    rw[List.getElem?_append_right (by simpa using hi),List.length_replicate,List.getElem?_map] at e2
    cases q:cap[i - own.length]? with
    |none=>rw[q] at e1;cases e1
    |some p=>
     rw[q] at e1 e2
     have e1:p.1=x:=Option.some.inj e1
     have e2:(σ[p.2]?).getD none=some v:=Option.some.inj e2
     obtain⟨c1,c2⟩:=S.caps p (List.mem_of_getElem? q)
     have e2':σ[p.2]?=some (some v):=by
      cases q2:σ[p.2]? with
      |none=>rw[q2] at e2;cases e2
      |some w=>rw[q2] at e2;rw[show w=some v from e2]
     have hk:=S.frees (p.1,.free) (kY c1) rfl
     obtain⟨m,hn,hl⟩:=I2.loc
     obtain⟨u,ru,lk⟩:=hl p.2 p.1 v c2 e2' (.inr hk)
     refine⟨u,ru,.inr ?_⟩
     rcases lk with⟨k1,_⟩ | ⟨_,c,ec,hcell⟩
     ·rcases hk with z | z
      ·rw[k1] at z;cases z
      ·rw[k1] at z;cases z
     ·subst e1
      refine⟨Yk (env:=X.env) c1,?_⟩
      obtain⟨c',ec'⟩:=Option.isSome_iff_exists.mp (qZ (cells:=X.env.cells) scope.names [] p.1 (kY c1))
      have z:=sub _ _ ec'
      rw[ec] at z;cases z
      obtain⟨o,ho,hd⟩:=hcell
      exact⟨c,ec',o,old c o ho,hd⟩
  ·obtain⟨v,o,ho,hd⟩:=I2.cell x c (sub x c e)
   exact⟨v,o,old c o ho,hd⟩
  ·rcases List.mem_append.mp (show p∈(X.pn++pins)++[(D,_)] from hp) with hp | hp
   ·obtain⟨q1,q2,q3,q4,q5⟩:=I2.pin p hp
    refine⟨old _ _ q1,q2,Nat.ne_of_lt (Nat.lt_of_lt_of_le (Heap.lt_size q1) hCle),λz=>?_,q5⟩
    rcases List.mem_cons.mp (I2.stkSub p.1 z) with q | q
    ·exact q3 q
    ·exact q4 q
   ·rw[List.mem_singleton.mp hp]
    exact⟨hacc,I2.hok.fresh hDle,hDC,dn,λv z=>by cases z⟩
  ·show (List.replicate own.length none++cap.map _).length=(own++cap.map _).length
   simp
 have stat:∀ {H':Hp} {pl:List (Addr×Obj)},(∀p∈pl,p.1=D∨p.1∈fp->p.1=D)->(∀b∈fp,H' b=none)->∀b∈fp,FpOk #[23] pl H' b:=by
  intro H' pl hpl hn b hb
  refine⟨hn b hb,Nat.ne_of_lt (Nat.lt_of_lt_of_le (flt b hb) hCle),λz=>?_,.inl hb,λx c e=>(f2 b hb).2.2.2.2.1 x c (sub x c e),λp hp=>?_⟩
  ·rcases List.mem_cons.mp (I2.stkSub b z) with q | q
   ·exact (f2 b hb).2.1 q
   ·exact (f2 b hb).2.2.1 q
  ·rcases List.mem_append.mp (show p∈(X.pn++pins)++pl from hp) with hp | hp
   ·exact (f2 b hb).2.2.2.2.2 p hp
   ·intro z
    have:=hpl p hp (.inr (z ▸ hb))
    rw[z] at this
    exact absurd (flt b hb) (by rw[this,hD];exact Nat.lt_irrefl _)
 have loop:∀s₃:Shared,s₃={ s₂ with heap:=h₁,toks:=s₂.toks+([]:List (Str×Value)).length } ->
   codeAny #[9] X.A (.compLoop #[28] 0 (.ref it) (.ref D) (compEnvC scope (clGo X.env.cells scope.names []) C X.env)) (compPost #[9] X.A X.xe (some (assign (.Name y py) X.env)) (λ_ s'=>SP X pins Dn .next s') (.ref D) C) s₃:=by
  rintro s₃ rfl
  refine QV (λn s'=>∃i ys its k σ1 H',Inv #[23] [(D,{ cls:=.type "list",data:=.seq (List.toArray its) k })] (σ1++cap.map λp=>(σ[p.2]?).getD none) H' s'/\σ1.length=own.length/\Vals ys its/\tn i s'.heap/\(∀b∈fp,H' b=none)/\W i n ys H') ?_ m0
   ⟨0,[],[],0,_,H2,I0,by simp,.nil,T.keep _ _ _ st2 λb hb o e=>old b o e,λb hb=>(f2 b hb).1,w0⟩
  rintro n s' ⟨i,ys,its,k,σ1,H',J1,hσ,rv,st1,fr1,w1⟩
  obtain⟨hsz,⟨stop,qn⟩ | ⟨go,N,hN,step⟩⟩:=turn i n ys H' w1
  ·refine thn (T.done #[23] rfl rfl rfl hc i _ s' _ H' (λ_ _=>False) J1 (stat (by intro p hp _;rw[List.mem_singleton.mp hp]) fr1) st1 stop) λr s4 ⟨hr,I4⟩=>?_
   subst hr
   obtain⟨m4,hn4,_⟩:=I4.loc
   obtain⟨pD1,pD2,pD3,pD4,pD5⟩:=I4.pin (D,_) (List.mem_append_right _ List.mem_cons_self)
   have u:=Wt (o:=.lst ys) I4.base hDle hCle (show Heap.SameBut C s4.heap s4.heap from⟨rfl,λ_ _=>rfl⟩) pD2
   have hCn:H' C=none:=I4.free
   have I5:Inv X pins σ (upd H' D (.lst ys)) s4:=by
    refine I2.call' (s':=s4) (ch:=fp) I4.os u ?_ I4.bare λb hb=>?_
    ·intro b ob e
     by_cases hb:b=D
     ·subst hb
      rw[zy] at e;cases e
      exact⟨hsz,its,k,rv,pD1⟩
     ·rw[zr hb] at e
      exact (I4.hok b ob e).stay (λc v hc' q=>q) (λc q=>by rw[zr (zH q pD2)];exact q) λc xs q=>by rw[zr (zH q pD2)];exact q
    ·obtain⟨q1,q2,q3,q4,q5,q6⟩:=f2 b hb
     exact⟨q4,q2,q5,q6⟩
   show wpAny _ X.A (assign (.Name y py) X.env (.ref D)) _ _ _
   refine wpAny_assign_Name (YH I5 hN hiy hy (v:=.ref D) rfl (λs5 I6 ⟨a5,sb5,ha5⟩=>?_) hfn)
   have hCa:C≠a5:=by
    rcases ha5 with z | z
    ·rw[z];exact Nat.ne_of_gt (Nat.lt_of_lt_of_le I2.lt hCle)
    ·intro e
     obtain⟨v,q⟩:=I2.cell _ _ z
     exact absurd (Nat.lt_of_lt_of_le q.lt (by rw[<-e];exact hCle)) (Nat.lt_irrefl _)
   refine⟨m4,hn4.sameBut sb5 hCa,λh3 sb3=>?_⟩
   have hC0:(upd H' D (.lst ys)) C=none:=by rw[zr (Ne.symm hDC)];exact hCn
   exact⟨_,_,qI (t':=s5.toks) (ch:=[C]) I6 (λb o hb q=>(sb3.2 b (λz=>hb (by simp[z]))).trans q) (λb hb=>by rw[List.mem_singleton.mp hb];exact I2.fpOk hCle hC0),qn D pD2⟩
  ·refine thn (T.item #[23] rfl rfl rfl hc i _ s' _ H' (λ_ _=>False) J1 (stat (by intro p hp _;rw[List.mem_singleton.mp hp]) fr1) st1 go) λr s4 ⟨u,hr,h4⟩=>?_
   subst hr
   refine thn h4 λ_ s5 ⟨x,H5,I5,r5,y5,st5,fr5⟩=>?_
   have I5':=I5.pinned (stat (by intro p hp _;rw[List.mem_singleton.mp hp]) fr5) (T.obj _ _ st5)
   refine thn (hG _ s5 _ H5 x u _ I5' r5 (step x H5 y5 σ1 hσ)) λ_ s6 ⟨σ6,H6,I6,⟨σ1',l6,e6⟩,q6⟩=>?_
   subst e6
   refine thn (hT _ s6 _ H6 _ I6 q6) λok s7 ⟨H7,I7,q7⟩=>?_
   have again:∀ {s8:Shared} {H8:Hp} {ys8:List V} {its8:List Value} {k8:Nat},Inv #[23] ([(D,{ cls:=.type "list",data:=.seq (List.toArray its8) k8 })]++pinsAt fp s5.heap) (σ1'++cap.map λp=>(σ[p.2]?).getD none) H8 s8->Vals ys8 its8->N ys8 H8 ->
     ∃m,m < n/\∃i ys its k σ1 H',Inv #[23] [(D,{ cls:=.type "list",data:=.seq (List.toArray its) k })] (σ1++cap.map λp=>(σ[p.2]?).getD none) H' s8/\σ1.length=own.length/\Vals ys its/\tn i s8.heap/\(∀b∈fp,H' b=none)/\W i m ys H':=by
    intro s8 H8 ys8 its8 k8 I8 rv8 n8
    obtain⟨m',hm,w8⟩:=hN ys8 H8 n8
    refine⟨m',hm,i+1,ys8,its8,k8,σ1',H8,I8.unpinned,l6,rv8,T.keep _ _ _ st5 λb hb o e=>(I8.pin (b,o) (List.mem_append_right _ (List.mem_append_right _ (vQ hb e)))).1,λb hb=>?_,w8⟩
    obtain⟨o,e,d⟩:=T.obj _ _ st5 b hb
    exact (I8.pin (b,o) (List.mem_append_right _ (List.mem_append_right _ (vQ hb e)))).2.1
   cases ok with
   |false=>exact again I7 rv q7
   |true=>
    refine thn (hE _ s7 _ H7 _ I7 q7) λy s8 ⟨v8,H8,I8,r8,q8⟩=>?_
    obtain⟨pD1,pD2,pD3,pD4,pD5⟩:=I8.pin (D,_) (List.mem_append_right _ List.mem_cons_self)
    have hsz':its.toArray.size<=sizeLine:=by rw[List.size_toArray,<-rv.length];exact hsz
    refine wpAny_list_append_plain (hsz:=hsz') (items:=its.toArray) ⟨k,pD1⟩ λh9 pl9 sb9=>?_
    obtain⟨k9,e9⟩:=pl9
    have ea:its.toArray.push y=(its++[y]).toArray:=by simp
    rw[ea] at e9
    have I8':Inv #[23] (pinsAt fp s5.heap) (σ1'++cap.map λp=>(σ[p.2]?).getD none) H8 s8:=I8.pins_of λp hp=>I8.pin p (List.mem_append_right _ (List.mem_append_right _ hp))
    have fD:FpOk #[23] (pinsAt fp s5.heap) H8 D:=by
     refine⟨pD2,pD3,pD4,.inr hDle,λx c e z=>?_,λp hp z=>?_⟩
     ·exact absurd (celt x c e) (by rw[z,hD];exact Nat.lt_irrefl _)
     ·rcases List.mem_append.mp (show p∈(X.pn++pins)++_ from hp) with hp | hp
      ·exact absurd (pnl p hp) (by rw[z,hD];exact Nat.lt_irrefl _)
      ·exact absurd (flt p.1 (ZI hp).1) (by rw[z,hD];exact Nat.lt_irrefl _)
    have I9:Inv #[23] (pinsAt fp s5.heap) (σ1'++cap.map λp=>(σ[p.2]?).getD none) H8 { s8 with heap:=h9 }:=qI (t':=s8.toks) (ch:=[D]) I8' (λb o hb e=>(sb9.2 b λz=>hb (by simp[z])).trans e) λb hb=>by rw[List.mem_singleton.mp hb];exact fD
    have I10:Inv #[23] ([(D,{ cls:=.type "list",data:=.seq (its++[y]).toArray k9 })]++pinsAt fp s5.heap) (σ1'++cap.map λp=>(σ[p.2]?).getD none) H8 { s8 with heap:=h9 }:=I9.pins_of λp hp=>by
     rcases List.mem_append.mp hp with hp | hp
     ·rw[List.mem_singleton.mp hp]
      exact⟨e9,pD2,pD3,pD4,λv z=>by cases z⟩
     ·exact I9.pin p (List.mem_append_right _ hp)
    exact again (s8:={ s8 with heap:=h9 }) I10 (rv.append (.cons r8 .nil)) q8
 subst hD
 exact codeAny_compStart_list (loop _ rfl) (T.self _ 0 _ _ _ (T.keep _ _ _ st2 λb hb o e=>old b o e) (loop _ rfl))
end L3
namespace L2
open PySem PySem.Spec PyProof.Rows
section
variable {κ:Type} [DecidableEq κ]
def valV (kvs:List (κ×V))(k:κ):Option V:=(kvs.find? λkv=>decide (kv.1=k)).map (·.2)
def putK (kvs:List (κ×V))(k:κ)(v:V):List (κ×V) :=
 if (kvs.any λkv=>decide (kv.1=k))=true then kvs.map (λkv=>if kv.1=k then (kv.1,v) else kv) else kvs++[(k,v)]
theorem Yf {p:κ×V}{r:List (κ×V)}{k:κ}(e:p.1=k):valV (p::r) k=some p.2:=by simp[valV,List.find?_cons,e]
theorem ZB {p:κ×V}{r:List (κ×V)}{k:κ}(e:¬p.1=k):valV (p::r) k=valV r k:=by simp[valV,List.find?_cons,e]
theorem Vh (kvs:List (κ×V))(k:κ)(v:V):(putK kvs k v).length<=kvs.length+1:=by
 unfold putK
 split
 ·rw[List.length_map];omega
 ·rw[List.length_append,List.length_cons,List.length_nil];omega
theorem RelO.isSome_eq {o:Option V}{u:Option Value}(r:RelO o u):o.isSome=u.isSome:=by
 cases o with
 |none=>cases u with
  |none=>rfl
  |some _=>exact (show False from r).elim
 |some _=>cases u with
  |none=>exact (show False from r).elim
  |some _=>rfl
theorem KV.val {kvs:List (κ×V)}{vs:List (κ×Value)}(r:KV kvs vs)(k:κ):RelO (valV kvs k) (valueAt vs k):=by
 unfold KV at r
 induction r with
 |nil=>exact True.intro
 | @cons p q ps qs h t ih=>
  obtain⟨h1,h2⟩:=h
  by_cases e:p.1=k
  ·have e':q.1=k:=h1.symm.trans e
   have b:valueAt (q::qs) k=some q.2:=by simp[valueAt,List.find?_cons,e']
   rw[Yf e,b];exact h2
  ·have e':¬q.1=k:=λz=>e (h1.trans z)
   have b:valueAt (q::qs) k=valueAt qs k:=by simp[valueAt,List.find?_cons,e']
   rw[ZB e,b];exact ih
theorem KV.any {kvs:List (κ×V)}{vs:List (κ×Value)}(r:KV kvs vs)(k:κ):(kvs.any λkv=>decide (kv.1=k))=vs.any λkv=>decide (kv.1=k):=by
 unfold KV at r
 induction r with
 |nil=>rfl
 |cons h t ih=>rw[List.any_cons,List.any_cons,ih,h.1]
theorem KV.repl {kvs:List (κ×V)}{vs:List (κ×Value)}(r:KV kvs vs)(k:κ){y:V}{u:Value}(ry:RelV y u) :
  KV (kvs.map λkv=>if kv.1=k then (kv.1,y) else kv) (vs.map λkv=>if kv.1=k then (kv.1,u) else kv):=by
 unfold KV at r ⊢
 induction r with
 |nil=>exact .nil
 | @cons p q ps qs h t ih=>
  rw[List.map_cons,List.map_cons]
  refine .cons ?_ ih
  obtain⟨h1,h2⟩:=h
  by_cases e:p.1=k
  ·rw[if_pos e,if_pos (h1.symm.trans e)];exact⟨h1,ry⟩
  ·rw[if_neg e,if_neg (λz=>e (h1.trans z))];exact⟨h1,h2⟩
theorem KV.put {kvs:List (κ×V)}{vs:List (κ×Value)}(r:KV kvs vs)(k:κ){y:V}{u:Value}(ry:RelV y u):KV (putK kvs k y) (stored vs k u):=by
 unfold putK stored
 rw[r.any k]
 by_cases e:(vs.any λkv=>decide (kv.1=k))=true
 ·rw[if_pos e,if_pos e];exact r.repl k ry
 ·rw[if_neg e,if_neg e];exact Paired.snoc r ⟨rfl,ry⟩
theorem KV.length {kvs:List (κ×V)}{vs:List (κ×Value)}(r:KV kvs vs):kvs.length=vs.length:=Paired.length r
end
theorem qT {P:Program}{w:World}{k:Key}{u:Value}(r:RelV (kV k) u):(zP P w).is k u=true:=by
 cases k with
 |inl i=>obtain⟨t,e⟩:=(show ∃t,u=Value.int i t from r);subst e;exact Ge P w i t
 |inr x=>obtain⟨t,e⟩:=(show ∃t,u=Value.str x t from r);subst e;exact zcr P w x t
section
variable {P:Program}{w:World}{H:Hp}{h:Heap}{a:Addr}
theorem zg6 {u:HO}(ok:HOk P w H h)(e:Rd H a u):ObjOk P w H h a u:=e.ok ok
theorem UY {kvs:List (Key×V)}(ok:HOk P w H h)(e:Rd H a (.dK kvs)):kvs.length<=sizeLine/\(a==sysModules)=false/\∃vs,KV kvs vs/\h.DictOf (zP P w) a vs :=
 show ObjOk P w H h a (.dK kvs) from zg6 ok e
theorem zcl {kvs:List (Key×V)}(ok:HOk P w H h)(e:H a=some (.dK kvs)):kvs.length<=sizeLine/\(a==sysModules)=false/\∃vs,KV kvs vs/\h.DictOf (zP P w) a vs:=UY ok (.inl e)
end
section
variable {X:Cx}{pins:List (Addr×Obj)}{σ:St}{H:Hp}{s:Shared}{a:Addr}{y v:V}{u r:Value}{o:Option V}{A:Around}{E:Value->Shared->Prop}
theorem Inv.big (I:Inv X pins σ H s):sysModules < s.heap.objs.size:=by
 have h:mainGlobals < s.heap.objs.size:=(I.mod.glob.keeps I.bk).lt
 exact Nat.lt_trans #[7] h
theorem ZF {h':Heap}{t':Nat}{ob:HO}(I:Inv X pins σ H s)(mu:Mut (H a))(hs:Heap.SameBut a s.heap h')(he:∃q,h'.get? a=some q)(new:ObjOk X.prog X.w (upd H a ob) h' a ob) :
  Inv X pins σ (upd H a ob) { s with heap:=h',toks:=t' } :=
 I.write (x:=a) (e:=a) mu (.inl rfl) (λb q hb z=>(hs.2 b hb).trans z) he new
end
section
variable {X:Cx}{pins:List (Addr×Obj)}{σ:St}{H:Hp}{s:Shared}{a:Addr}{kvs:List (Key×V)}{k:Key}{u:Value}{A:Around}{E:Value->Shared->Prop}
end
def NoSl (i:Expr):Prop:=∀ov iv,subscripted i false ov iv=operate [ov,iv] (getItem ov iv)
theorem zce {prog:Program}{w:World}{A:Around}{E:Value->Shared->Prop}{s:Shared}{env:Env}{value slice:Expr}{pos:Pos}{T id:String}{Q:Value->Shared->Prop}
  (hl:typeLookup (.type T) "__getitem__" = pure (some (.builtin id))) (hs:NoSl slice)
  (h:wpAny #[19] A (eval value env) (λo s₁=>wpAny #[19] A (eval slice env) (λi s₂=>s₂.TypeIs o T/\wpAny #[19] A (getItem o i) Q E s₂) E s₁) E s) :
  wpAny #[19] A (eval (.Subscript value slice pos) env) Q E s:=by
 refine Subscript_ (wpAny_mono h (λo s₁ h₁=>wpAny_mono h₁ (λi s₂ h₂=>?_) λ_ _ x=>x) λ_ _ x=>x)
 obtain⟨hT,h₂⟩:=h₂
 unfold subscriptTail
 refine wpAny_bind ?_
 rw[getitemInPython_of_ne hT.not_modules]
 refine wpAny_bind (wpAny_specialOf hT hl ?_)
 have fin:wpAny #[19] A (subscripted slice false o i) (λr s₃=>wpAny #[19] A (letTemporaryGo value o r >>= λ_=>pure r) Q E s₃) E s₂:=by
  rw[hs o i]
  exact wpAny_operating (wpAny_mono h₂ (λr s₃ h₃=>wpAny_bind (wpAny_letTemporaryGo (wpAny_pure h₃))) λ_ _ x=>x)
 first
  |exact wpAny_pure (wpAny_bind fin)
  |exact wpAny_bind (wpAny_pure (wpAny_bind fin))
  |exact wpAny_bind fin
section
variable {X:Cx}{o i e value:Expr}{pos pos' tpos:Pos}{td ty tv:TE}
end
theorem zd5 {P:Program}{w:World}{H:Hp}(h:Heap)(hb:sysModules < h.objs.size):ObjOk P w H (h.push { cls:=.type "dict",data:=.dict #[] }) h.objs.size (.dK []) :=
 ⟨Nat.zero_le _,beq_eq_false_iff_ne.mpr (Ne.symm (Nat.ne_of_lt hb)),[],.nil,Heap.DictOf.new h⟩
section
variable {X:Cx}{pos:Pos}
end
def tPairs:List (TE×TE)->St->Hp->(List (V×V)->Hp->Prop)->Prop
 | [],_,H,Q=>Q [] H
 | (tk,tv)::r,σ,H,Q=>tk σ H λx H1=>tv σ H1 λy H2=>tPairs r σ H2 λps H3=>Q ((x,y)::ps) H3
abbrev VV:List (V×V)->List (Value×Value)->Prop:=Paired λp q=>RelV p.1 q.1/\RelV p.2 q.2
def PPs (X:Cx)(pos:Pos)(keys:List (Option Expr))(values:List Expr)(trs:List (TE×TE)):Prop :=
 ∀(pins:List (Addr×Obj)) (s:Shared) (σ:St) (H:Hp) (Q:List (V×V)->Hp->Prop),Inv X pins σ H s->tPairs trs σ H Q ->
  wpAny #[9] X.A (evalPairs (pairTrees keys values X.env pos)) (λvs s'=>∃ps H',Inv X pins σ H' s'/\VV ps vs/\Q ps H') X.xe s
theorem Rt {X:Cx}{pos:Pos}:PPs X pos [] [] []:=λpins s σ H Q I h=>pairTrees_nil_walk ⟨[],H,I,.nil,h⟩
theorem zan {X:Cx}{pos:Pos}{k v:Expr}{ks:List (Option Expr)}{vs:List Expr}{tk tv:TE}{trs:List (TE×TE)}(hk:PE X k tk)(hv:PE X v tv)(hr:PPs X pos ks vs trs) :
  PPs X pos (some k::ks) (v::vs) ((tk,tv)::trs):=λpins s σ H Q I h=>
 pairTrees_cons_walk (thn (hk pins s σ H _ I h) λu s1 ⟨x,H1,I1,rx,q1⟩=>thn (hv pins s1 σ H1 _ I1 q1) λw2 s2 ⟨y,H2,I2,ry,q2⟩=>
  thn (hr pins s2 σ H2 _ I2 q2) λws s3 ⟨ps,H3,I3,rel,q3⟩=>⟨(x,y)::ps,H3,I3,.cons ⟨rx,ry⟩ rel,q3⟩)
def mergeK (kvs more:List (Key×V)):List (Key×V):=more.foldl (λacc kv=>putK acc kv.1 kv.2) kvs
theorem KV.merge:∀ {more:List (Key×V)} {rs:List (Key×Value)} {kvs:List (Key×V)} {vs:List (Key×Value)},KV more rs->KV kvs vs->KV (mergeK kvs more) (merged vs rs):=by
 intro more rs kvs vs r
 unfold KV at r
 induction r generalizing kvs vs with
 |nil=>intro q;exact q
 | @cons p q ps qs h t ih=>
  intro r0
  have e:KV (putK kvs p.1 p.2) (stored vs q.1 q.2):=by
   have:=r0.put p.1 h.2
   rw[<-h.1];exact this
  exact ih e
theorem VM:∀(more kvs:List (Key×V)),(mergeK kvs more).length<=kvs.length+more.length
 | [],kvs=>by show kvs.length<=kvs.length+0;omega
 |p::r,kvs=>by
  have h1:=VM r (putK kvs p.1 p.2)
  have h2:=Vh kvs p.1 p.2
  show (mergeK (putK kvs p.1 p.2) r).length<=_
  rw[List.length_cons];omega
theorem Wp {P:Program}{w:World}:∀ {kvs:List (Key×V)} {ws:List (Value×Value)},VV (kvs.map λkv=>(kV kv.1,kv.2)) ws->∃rs,Carries (zP P w) ws rs/\KV kvs rs
 | [],_,r=>by rw[List.map_nil] at r;cases r;exact⟨[],True.intro,.nil⟩
 |p::kvs,_,r=>by
  rw[List.map_cons] at r
  cases r with
  | @cons a b as bs h t=>
   obtain⟨rs,c,q⟩:=Wp (P:=P) (w:=w) t
   obtain⟨b1,b2⟩:=b
   exact⟨(p.1,b2)::rs,⟨qT h.1,rfl,c⟩,.cons ⟨rfl,h.2⟩ q⟩
structure M1 (X:Cx)(o:Expr)(m:Str)(apos:Pos)(e:Expr)(cpos:Pos):Prop where
 base:attributeBase o m X.env (eval o X.env)=eval o X.env
 few:((backTo cpos (starEach [e] X.env)).all (λx=>!x.1)&&(backToKw cpos (keywordEach [] X.env)).all (λx=>x.1.isSome)
  && decide (([e]:List Expr).length+([]:List Keyword).length+(if ([]:List Keyword).isEmpty then 0 else 1) < 30))=true
 line:(apos.endLine==cpos.line)=true
 trees:backTo cpos (starEach [e] X.env)=[(false,eval e X.env)]
structure M2 (X:Cx)(o:Expr)(m:Str)(apos:Pos)(e f:Expr)(cpos:Pos):Prop where
 base:attributeBase o m X.env (eval o X.env)=eval o X.env
 few:((backTo cpos (starEach [e,f] X.env)).all (λx=>!x.1)&&(backToKw cpos (keywordEach [] X.env)).all (λx=>x.1.isSome)
  && decide (([e,f]:List Expr).length+([]:List Keyword).length+(if ([]:List Keyword).isEmpty then 0 else 1) < 30))=true
 line:(apos.endLine==cpos.line)=true
 trees:backTo cpos (starEach [e,f] X.env)=[(false,eval e X.env),(false,eval f X.env)]
section
variable {X:Cx}{pins:List (Addr×Obj)}{σ:St}{H:Hp}{s:Shared}{a:Addr}{y d:V}{u r:Value}{o:Option V}{A:Around}{E:Value->Shared->Prop}
end
section
variable {X:Cx}{o e f:Expr}{apos cpos:Pos}{td ty tx:TE}
end
section
variable {X:Cx}{pins:List (Addr×Obj)}{σ:St}{H:Hp}{s:Shared}{a:Addr}{kvs:List (Key×V)}{A:Around}{E:Value->Shared->Prop}
end
section
variable {X:Cx}{pins:List (Addr×Obj)}{σ:St}{H:Hp}{s:Shared}{a:Addr}{y:V}{u:Value}{A:Around}{E:Value->Shared->Prop}
end
end L2
namespace L4
open PySem PySem.Spec L2 L3
open PyProof.Rows hiding St
def dxp (w:World)(a:Addr)(o:Obj)(kvs:List (Key×V)):Heap->Prop:=λh=>h.get? a=some o/\kvs.length<=sizeLine/\(a==sysModules)=false/\∃vs,KV kvs vs/\∀P,o.IsDictOf (zP P w) vs
def DX (w:World)(a:Addr)(o:Obj)(kvs:List (Key×V)):HO:=.ext (dxp w a o kvs)
theorem pairsP {P P':Program}{w:World}:∀ {es:List DictEntry} {vs:List (Key×Value)},Pairs (zP P w) es vs->Pairs (zP P' w) es vs:=by
 intro es vs h
 induction h with
 |nil=>exact .nil
 |cons=>first | exact .cons ‹_› ‹_› | exact .cons ‹_› ‹_› ‹_› | (constructor<;>assumption)
theorem anyP {o:Obj}{P P':Program}{w:World}{vs:List (Key×Value)}(h:o.IsDictOf (zP P w) vs):o.IsDictOf (zP P' w) vs :=
 let ⟨es,ep,h1,h2,h3,h4,h5⟩:=h;⟨es,ep,h1,h2,h3,pairsP h4,h5⟩
theorem qk {P:Program}{w:World}{h:Heap}{a:Addr}{kvs:List (Key×V)}{vs:List (Key×Value)}(z:kvs.length<=sizeLine)(hd:(a==sysModules)=false)(rel:KV kvs vs)(dd:h.DictOf (zP P w) a vs) :
  ∃o,h.get? a=some o/\∀H,ObjOk P w H h a (DX w a o kvs):=by
 obtain⟨o,ho,hi⟩:=Heap.dictOf_iff.mp dd
 exact⟨o,ho,λH=>⟨⟨ho,z,hd,vs,rel,λP=>anyP hi⟩,⟨o,ho⟩,λh1 h2 ⟨e,r⟩ k=>⟨k _ e,r⟩⟩⟩
section
variable {X:Cx}{pins:List (Addr×Obj)}{σ:St}{H:Hp}{s:Shared}{a:Addr}{ob:Obj}{kvs:List (Key×V)}{k:Key}{y v:V}{u r:Value}{A:Around}{E:Value->Shared->Prop}
theorem xg (I:Inv X pins σ H s)(e:H a=some (DX X.w a ob kvs)):s.heap.get? a=some ob/\kvs.length<=sizeLine/\(a==sysModules)=false/\∃vs,KV kvs vs/\ob.IsDictOf (zP X.prog X.w) vs/\s.heap.DictOf (zP X.prog X.w) a vs:=by
 obtain⟨⟨h1,h2,h3,vs,h4,h5⟩,_⟩:=(show ObjOk X.prog X.w H s.heap a (DX X.w a ob kvs) from I.hok a _ e)
 exact⟨h1,h2,h3,vs,h4,h5 _,Heap.dictOf_iff.mpr ⟨ob,h1,h5 _⟩⟩
theorem VG (I:Inv X pins σ H s)(e:H a=some (DX X.w a ob kvs)):s.TypeIs (.ref a) "dict" := by
 obtain⟨_,_,_,vs,_,_,dd⟩:=xg I e
 exact dd.typeIs
theorem zd8 (I:Inv X pins σ H s)(e:H a=some (DX X.w a ob kvs)):∀b,Value.ref a=.ref b->∃ob,s.heap.get? b=some ob/\ob.dict=none:=λb q=>by
 cases q
 obtain⟨h1,_,_,vs,_,⟨_,_,h2,_⟩,_⟩:=xg I e
 exact⟨ob,h1,h2.2.1⟩
theorem UT {Q:Value->Shared->Prop}(I:Inv X pins σ H s)(e:H a=some (DX X.w a ob kvs))(l:valV kvs k=some v)(ry:RelV (kV k) u)(h:∀w' s',Inv X pins σ H s'->RelV v w'->Q w' s') :
  wpAny #[9] A (getItem (.ref a) u) Q E s:=by
 obtain⟨_,z,hd,vs,rel,_,dd⟩:=xg I e
 obtain⟨w',hw,rw'⟩:=RelO.some_of (v:=v) (o:=valueAt vs k) (by rw[<-l];exact rel.val k)
 exact wpAny_getItem_of (qT ry) dd.mapOf hw (h w' _ (I.tok _) rw')
theorem Gf {Q:Value->Shared->Prop}(I:Inv X pins σ H s)(e:H a=some (DX X.w a ob kvs))(ry:RelV (kV k) u)(h:∀s',Inv X pins σ H s'->Q (.bool (valV kvs k).isSome) s') :
  wpAny #[9] A (compareOp .In u (.ref a)) Q E s:=by
 obtain⟨_,z,hd,vs,rel,_,dd⟩:=xg I e
 refine wpAny_in_of (qT ry) hd dd.mapOf ?_
 rw[<-(rel.val k).isSome_eq]
 exact h _ (I.tok _)
theorem UE {Q:Unit->Shared->Prop}(I:Inv X pins σ H s)(e:H a=some (DX X.w a ob kvs))(l:kvs.length < sizeLine)(ry:RelV (kV k) u)(rv:RelV v r)
  (h:∀s' ob',Inv X pins σ (upd H a (DX X.w a ob' (putK kvs k v))) s'->Q () s'):wpAny #[9] A (setItem (.ref a) u r) Q E s:=by
 obtain⟨_,z,hd,vs,rel,_,dd⟩:=xg I e
 have hz:vs.length<=sizeLine:=by rw[<-rel.length];exact z
 have hl:(putK kvs k v).length<=sizeLine:=by have:=Vh kvs k v;omega
 refine wpAny_setItem_pairs (hsz:=hz) (qT ry) dd λh' dd' hs=>?_
 have he:∃q,h'.get? a=some q:=let ⟨q,_,_,hq,_⟩:=dd';⟨q,hq⟩
 obtain⟨o',ho',new⟩:=qk (P:=X.prog) (w:=X.w) (a:=a) (kvs:=putK kvs k v) hl hd (rel.put k rv) dd'
 exact h _ o' (ZF I (by rw[e];exact True.intro) hs he (new _))
end
def tXNew (P:Program)(w:World):TE:=λ_ H Q=>∀p ob,H p=none->Q (.ref p) (upd H p (DX w p ob []))
def tXGet (P:Program)(w:World)(td ty:TE):TE:=λσ H Q=>td σ H λx H1=>ty σ H1 λy H2=>∃a ob kvs k v,x=.ref a/\H2 a=some (DX w a ob kvs)/\y=kV k/\valV kvs k=some v/\Q v H2
def tXIn (P:Program)(w:World)(ty td:TE):TE:=λσ H Q=>ty σ H λy H1=>td σ H1 λx H2=>∃a ob kvs k,x=.ref a/\H2 a=some (DX w a ob kvs)/\y=kV k/\Q (.bl (valV kvs k).isSome) H2
def sXPut (P:Program)(w:World)(td ty tv:TE):TS:=λD σ H=>tv σ H λv H1=>td σ H1 λx H2=>ty σ H2 λy H3=>∃a ob kvs k,x=.ref a/\H3 a=some (DX w a ob kvs)/\y=kV k/\kvs.length < sizeLine/\∀ob',D.nx σ (upd H3 a (DX w a ob' (putK kvs k v)))
section
variable {X:Cx}{o i e f value:Expr}{pos pos' tpos apos cpos:Pos}{td ty tv tx:TE}
theorem zbz:PE X (.Dict [] [] pos) (tXNew X.prog X.w):=λpins s σ H Q I h=>by
 obtain⟨ob,ho,new⟩:=qk (P:=X.prog) (w:=X.w) (a:=s.heap.objs.size) (kvs:=[]) (Nat.zero_le _) (beq_eq_false_iff_ne.mpr (Ne.symm (Nat.ne_of_lt I.big))) .nil (Heap.DictOf.new (knd:=zP X.prog X.w) s.heap)
 exact wpAny_Dict_empty ⟨.ref s.heap.objs.size,_,I.laid (a:=s.heap.objs.size) (o:=DX X.w s.heap.objs.size ob []) (t':=s.toks) (λ_ _ q=>Heap.get?_push_of_some _ q) (Nat.le_refl _) (new _),rfl,h _ ob (I.hok.fresh (Nat.le_refl _))⟩
theorem zc8 (ho:PE X o td)(hi:PE X i ty)(hs:NoSl i):PE X (.Subscript o i pos) (tXGet X.prog X.w td ty):=by
 intro pins s σ H Q I h
 refine zce PySem.F.slot_dict_getitem.lookup hs (thn (ho pins s σ H _ I h) λu s1 ⟨x,H1,I1,rx,q1⟩=>thn (hi pins s1 σ H1 _ I1 q1) λiv s2 ⟨y,H2,I2,ry,a,ob,kvs,k,v,ex,g,ey,l,q2⟩=>?_)
 subst ex ey
 obtain rfl:u=Value.ref a:=rx
 exact⟨VG I2 g,UT I2 g l ry λw' s3 I3 rw'=>⟨v,H2,I3,rw',q2⟩⟩
theorem RZ (hi:PE X i ty)(ho:PE X o td):PC X .In i o (tXIn X.prog X.w ty td):=by
 intro pins s σ H Q I h
 refine thn (hi pins s σ H _ I h) λiv s1 ⟨y,H1,I1,ry,q1⟩=>thn (ho pins s1 σ H1 _ I1 q1) λu s2 ⟨x,H2,I2,rx,a,ob,kvs,k,ex,g,ey,q2⟩=>?_
 subst ex ey
 obtain rfl:u=Value.ref a:=rx
 exact Gf I2 g ry λs3 I3=>⟨.bl _,H2,I3,rfl,q2⟩
theorem RP (ho:PE X o td)(hi:PE X i ty)(hv:PE X value tv)(hs:swapsWith value (some (.Subscript o i pos')) pos.line X.env=pure false) :
  PS X (.Assign [.Subscript o i pos'] value pos) (sXPut X.prog X.w td ty tv):=by
 intro pins s σ H D I h
 refine wpAny_Assign_Subscript (thn (hv pins s σ H _ I h) λr s1 ⟨v,H1,I1,rv,q1⟩=>thn (ho pins s1 σ H1 _ I1 q1) λu s2 ⟨x,H2,I2,rx,q2⟩=>thn (hi pins s2 σ H2 _ I2 q2) λiv s3 ⟨y,H3,I3,ry,a,ob,kvs,k,ex,g,ey,l,q3⟩=>?_) hs
 subst ex ey
 obtain rfl:u=Value.ref a:=rx
 exact UE I3 g l ry rv λs4 ob' I4=>⟨σ,_,I4,q3 ob'⟩
end
section
variable {X:Cx}{pins:List (Addr×Obj)}{σ:St}{H:Hp}{s:Shared}{a:Addr}{ob:Obj}{kvs:List (Key×V)}
end
inductive PairsAt (P:Program) (w:World) (h:Heap):List Value->List (Key×Value)->Prop
 |nil:PairsAt P w h [] []
 |cons {a:Addr} {r:List Value} {k:Key} {kv v:Value} {kvs:List (Key×Value)}:h.IsTuple a #[kv,v]->(zP P w).is k kv=true->PairsAt P w h r kvs->PairsAt P w h (.ref a::r) ((k,v)::kvs)
section
variable {prog:Program}{w:World}{A:Around}{s:Shared}{R:Result->Shared->Prop}
end
section
variable {prog:Program}{w:World}{A:Around}{E:Value->Shared->Prop}{s:Shared}
end
inductive PairsV (K:PySem.W.Frag) (H:Hp):List V->List (Key×V)->Prop
 |nil:PairsV K H [] []
 |cons {a:Addr} {r:List V} {k:Key} {v:V} {kvs:List (Key×V)}:SqT K H a [kV k,v]->PairsV K H r kvs->PairsV K H (.ref a::r) ((k,v)::kvs)
section
variable {X:Cx}{pins:List (Addr×Obj)}{σ:St}{H:Hp}{s:Shared}
end
section
variable {X:Cx}
end
section
variable {X:Cx}{pins:List (Addr×Obj)}{σ:St}{H:Hp}{s:Shared}{a v:Addr}{ob:Obj}{kvs:List (Key×V)}{cls:String}
end
structure M0 (X:Cx)(o:Expr)(m:Str)(apos cpos:Pos):Prop where
 base:attributeBase o m X.env (eval o X.env)=eval o X.env
 line:(apos.endLine==cpos.line)=true
section
variable {X:Cx}{o:Expr}{apos cpos:Pos}{td:TE}
end
def intsV (kis:List (Key×Int)):List (Key×V):=kis.map λp=>(p.1,.int p.2)
def lookI (kis:List (Key×Int))(k:Key):Option Int:=(kis.find? λp=>decide (p.1=k)).map (·.2)
def hitsI (kb:List (Key×Int)):List (Key×Int)->Bool
 | []=>true
 |p::r=>match lookI kb p.1 with
  |none=>false
  |some j=>decide (p.2=j)&&hitsI kb r
def eqI (ka kb:List (Key×Int)):Bool:=ka.length==kb.length&&hitsI kb ka
theorem KJ (k:Key):∀kis:List (Key×Int),valV (intsV kis) k=(lookI kis k).map V.int
 | []=>rfl
 |p::r=>by
  have ih:=KJ k r
  by_cases e:p.1=k
  ·rw[show intsV (p::r)=(p.1,V.int p.2)::intsV r from rfl,Yf e];simp[lookI,e]
  ·rw[show intsV (p::r)=(p.1,V.int p.2)::intsV r from rfl,ZB e,ih];simp[lookI,e]
theorem Qt {A:Around}{s:Shared}{kb:List (Key×Int)}{vb:List (Key×Value)}(rb:KV (intsV kb) vb):∀ {ka:List (Key×Int)} {va:List (Key×Value)},KV (intsV ka) va->PySem.W.KeqHits A s vb va (hitsI kb ka)
 | [],_,r=>by cases r;exact .nil
 |p::ka,_,r=>by
  cases r with
  | @cons _ q _ qs h t=>
   obtain⟨k',u⟩:=q
   obtain⟨h1,h2⟩:=h
   have h1:p.1=k':=h1
   obtain⟨tk,h2⟩:∃tk,u=Value.int p.2 tk:=h2
   subst h1 h2
   have rv:=rb.val p.1
   rw[KJ] at rv
   have ih:=Qt (A:=A) (s:=s) rb t
   unfold hitsI
   cases hl:lookI kb p.1 with
   |none=>
    rw[hl] at rv
    exact .miss (RelO.none_of rv)
   |some j=>
    rw[hl] at rv
    obtain⟨w',hw,rw'⟩:=RelO.some_of (v:=.int j) (o:=valueAt vb p.1) rv
    obtain⟨tk',rfl⟩:=rw'
    have:=PySem.W.keq_flat (A:=A) (s:=s) (.int p.2 tk) (.int j tk')
    have e:PyData.eqv (.int p.2) (.int j)=decide (p.2=j):=by
     rw[PyData.eqv]
     by_cases h:p.2=j<;>simp[h]
    rw[e] at this
    exact .hit hw this ih
section
variable {X:Cx}{pins:List (Addr×Obj)}{σ:St}{H:Hp}{s:Shared}{a b:Addr}{oa ob:Obj}{ka kb:List (Key×Int)}{A:Around}{E:Value->Shared->Prop}
theorem zgq {Q:Value->Shared->Prop}(hu:A.units < cLine)(I:Inv X pins σ H s)(ea:H a=some (DX X.w a oa (intsV ka)))(eb:H b=some (DX X.w b ob (intsV kb)))(h:Q (.bool (!eqI ka kb)) s) :
  wpAny #[9] A (compareOp .NotEq (.ref a) (.ref b)) Q E s:=by
 obtain⟨_,_,ha,va,ra,_,da⟩:=xg I ea
 obtain⟨_,_,hb,vb,rb,_,db⟩:=xg I eb
 refine PySem.W.keq_ne ha hb da db hu (λ_=>Qt rb ra) ?_
 have h1:va.length=ka.length:=by rw[<-ra.length];simp[intsV]
 have h2:vb.length=kb.length:=by rw[<-rb.length];simp[intsV]
 rw[h1,h2]
 exact h
end
def tXEq (P:Program)(w:World)(neg:Bool)(ta tb:TE):TE:=λσ H Q=>ta σ H λx H1=>tb σ H1 λy H2=>∃a b oa ob ka kb,x=.ref a/\y=.ref b/\H2 a=some (DX w a oa (intsV ka))/\H2 b=some (DX w b ob (intsV kb))/\Q (.bl (neg ^^ eqI ka kb)) H2
section
variable {X:Cx}{i o:Expr}{ta tb:TE}
theorem zbf (hu:X.A.units < cLine)(hi:PE X i ta)(ho:PE X o tb):PC X .NotEq i o (tXEq X.prog X.w true ta tb):=by
 intro pins s σ H Q I h
 refine thn (hi pins s σ H _ I h) λiv s1 ⟨y,H1,I1,ry,q1⟩=>thn (ho pins s1 σ H1 _ I1 q1) λu s2 ⟨x,H2,I2,rx,a,b,oa,ob,ka,kb,ex,ey,ea,eb,q2⟩=>?_
 subst ex ey
 obtain rfl:iv=Value.ref a:=ry
 obtain rfl:u=Value.ref b:=rx
 refine zgq hu I2 ea eb ⟨.bl _,H2,I2,rfl,?_⟩
 simpa using q2
end
section
variable {X:Cx}{pins:List (Addr×Obj)}{σ:St}{H:Hp}{s:Shared}{a:Addr}{ob:Obj}{kvs:List (Key×V)}
end
section
variable {X:Cx}{pins:List (Addr×Obj)}{σ:St}{H H':Hp}{s:Shared}{h':Heap}
theorem many (I:Inv X pins σ H s)(k:∀b u,s.heap.get? b=some u->h'.get? b=some u)(low:∀b,b < s.heap.objs.size->H' b=H b)(hok:HOk X.prog X.w H' h')(t':Nat):Inv X pins σ H' { s with heap:=h',toks:=t' }:=by
 have hl:∀b u,H b=some u->H' b=some u:=λb u e=>by rw[low b (I.hok.lt e)];exact e
 exact I.un ⟨λb u q _ _ _=>k b u q,λb u q _ _ _=>⟨u.slots,k b u q⟩,λb u q n _=>by rw[low b (Heap.lt_size q)];exact n,λb u q _=>⟨u,k b u q⟩,λb xs q=>hl b _ q,λb u xs q=>hl b _ q,λb ps q=>⟨#[],by rw[hl b _ q];simp⟩⟩ hok
end
end L4
namespace Dv
open PySem PySem.Spec L2 L3 L4
open PyProof.Rows hiding St
structure KW where
 fr:PySem.W.Frag
 w:World
instance:Coe KW PySem.W.Frag:=⟨KW.fr⟩
abbrev _root_.L2.Cx.kw (X:Cx):KW:=⟨X.K,X.w⟩
inductive D where
 |non | bl (b:Bool) | int (i:Int) | str (x:Str) | lst (xs:List D) | tup (xs:List D) | scr (ns:List Int) | obj (C:Addr) (fs:List Str) (ds:List D)
  |emp
mutual
def Rp (K:KW)(F:Hp):D->V->Prop
 |.non,v=>v=.non
 |.bl b,v=>v=.bl b
 |.int i,v=>v=.int i
 |.str x,v=>v=.str x
 |.lst ds,v=>∃a vs,v=.ref a/\F a=some (.lst vs)/\Rps K F ds vs
 |.tup ds,v=>∃a vs,v=.ref a/\F a=some (.tup vs)/\Rps K F ds vs
 |.scr ns,v=>∃a,v=.ref a/\SqL K F a (ns.map V.int)
 |.obj C fs ds,v=>∃a dx vs,v=.ref a/\F a=some (.ins C dx (fs.zip vs))/\fs.length=vs.length/\Rps K F ds vs
 |.emp,v=>∃a,v=.ref a/\F a=some (.dK [])
def Rps (K:KW)(F:Hp):List D->List V->Prop
 | [],vs=>vs=[]
 |d::ds,vs=>∃v r,vs=v::r/\Rp K F d v/\Rps K F ds r
end
mutual
theorem Rp.mono {K:KW}{F F':Hp}(s:Same F F'):∀ {d:D} {v:V},Rp K F d v->Rp K F' d v
 |.non,_,h=>h
 |.bl _,_,h=>h
 |.int _,_,h=>h
 |.str _,_,h=>h
 |.lst _,_,⟨a,vs,e,q,r⟩=>⟨a,vs,e,s _ _ q,Rps.mono s r⟩
 |.tup _,_,⟨a,vs,e,q,r⟩=>⟨a,vs,e,s _ _ q,Rps.mono s r⟩
 |.scr _,_,⟨a,e,q⟩=>⟨a,e,s.seq q⟩
 |.obj _ _ _,_,⟨a,dx,vs,e,q,l,r⟩=>⟨a,dx,vs,e,s _ _ q,l,Rps.mono s r⟩
 |.emp,_,⟨a,e,q⟩=>⟨a,e,s _ _ q⟩
theorem Rps.mono {K:KW}{F F':Hp}(s:Same F F'):∀ {ds:List D} {vs:List V},Rps K F ds vs->Rps K F' ds vs
 | [],_,h=>h
 |_::_,_,⟨v,r,e,h,t⟩=>⟨v,r,e,Rp.mono s h,Rps.mono s t⟩
end
section
variable {K:KW}{F F' H H':Hp}
theorem Rps.length:∀ {ds:List D} {vs:List V},Rps K F ds vs->ds.length=vs.length
 | [],_,h=>by cases h;rfl
 |_::_,_,⟨_,_,e,_,t⟩=>by subst e;simp[Rps.length t]
theorem Rps.append:∀ {ds es:List D} {vs ws:List V},Rps K F ds vs->Rps K F es ws->Rps K F (ds++es) (vs++ws)
 | [],_,_,_,h,t=>by cases h;exact t
 |_::_,_,_,_,⟨v,r,e,h,t⟩,q=>by subst e;exact⟨v,_,rfl,h,Rps.append t q⟩
theorem Rps.get:∀ {ds:List D} {vs:List V} {i:Nat} {d:D},Rps K F ds vs->ds[i]?=some d->∃v,vs[i]?=some v/\Rp K F d v
 | [],_,_,_,_,e=>by simp at e
 |_::_,_,0,_,⟨v,r,e,h,t⟩,q=>by subst e;simp at q;subst q;exact⟨v,rfl,h⟩
 |_::_,_,i+1,_,⟨v,r,e,h,t⟩,q=>by
  subst e
  obtain⟨w,h1,h2⟩:=Rps.get (i:=i) t (by simpa using q)
  exact⟨w,by simpa using h1,h2⟩
theorem Rps.get':∀ {ds:List D} {vs:List V} {i:Nat} {v:V},Rps K F ds vs->vs[i]?=some v->∃d,ds[i]?=some d/\Rp K F d v:=fun {ds vs i v} r e=>by
 have hl:=r.length
 have hi:i < vs.length:=(List.getElem?_eq_some_iff.mp e).1
 have hd:ds[i]?=some ds[i]:=List.getElem?_eq_getElem #[1]
 obtain⟨w,h1,h2⟩:=r.get hd
 rw[e] at h1;cases h1
 exact⟨_,hd,h2⟩
theorem Rps.take:∀ {ds:List D} {vs:List V} (n:Nat),Rps K F ds vs->Rps K F (ds.take n) (vs.take n)
 |_,_,0,_=>rfl
 | [],_,_+1,h=>by cases h;rfl
 |_::_,_,n+1,⟨v,r,e,h,t⟩=>by subst e;exact⟨v,_,rfl,h,Rps.take n t⟩
theorem Rps.drop:∀ {ds:List D} {vs:List V} (n:Nat),Rps K F ds vs->Rps K F (ds.drop n) (vs.drop n)
 |_,_,0,r=>r
 | [],_,_+1,h=>by cases h;rfl
 |_::_,_,n+1,⟨v,r,e,h,t⟩=>by subst e;exact Rps.drop n t
theorem Rps.set {d:D}{v:V}(hd:Rp K F d v):∀ {ds:List D} {vs:List V} (n:Nat),Rps K F ds vs->Rps K F (ds.set n d) (vs.set n v)
 | [],_,_,h=>by cases h;rfl
 |_::_,_,0,⟨w,r,e,h,t⟩=>by subst e;exact⟨v,r,rfl,hd,t⟩
 |_::_,_,n+1,⟨w,r,e,h,t⟩=>by subst e;exact⟨w,_,rfl,h,Rps.set hd n t⟩
theorem Rps.snoc {ds:List D}{vs:List V}{d:D}{v:V}(r:Rps K F ds vs)(h:Rp K F d v):Rps K F (ds++[d]) (vs++[v]):=r.append ⟨v,[],rfl,h,rfl⟩
theorem Rps.ints:∀(ns:List Int),Rps K F (ns.map D.int) (ns.map V.int)
 | []=>rfl
 |_::ns=>⟨_,_,rfl,rfl,Rps.ints ns⟩
theorem ye {a:Addr}{o:HO}(n:H a=none):Same H (upd H a o):=λb u e=>by rw[zr (zH e n)];exact e
theorem GC {a:Addr}{o:HO}(s:Same F H)(n:H a=none):Same F (upd H a o):=s.trans (ye n)
structure Ext (F H F' H':Hp):Prop where
 ff:Same F F'
 hh:Same H H'
 fh:Same F' H'
 nw:∀a,F' a≠none->F a≠none∨H a=none
theorem Ext.refl (s:Same F H):Ext F H F H:=⟨Same.refl _,Same.refl _,s,λ_ h=>.inl h⟩
theorem Ext.trans {F1 H1 F2 H2:Hp}(x:Ext F H F1 H1)(y:Ext F1 H1 F2 H2):Ext F H F2 H2 :=
 ⟨x.ff.trans y.ff,x.hh.trans y.hh,y.fh,λa h=>(y.nw a h).elim (x.nw a) λz=>.inr (x.hh.free z)⟩
theorem Ext.new {a:Addr}{o:HO}(s:Same F H)(n:H a=none):Ext F H F (upd H a o):=⟨Same.refl _,ye n,GC s n,λ_ h=>.inl h⟩
theorem Ext.newF {a:Addr}{o:HO}(s:Same F H)(n:H a=none):Ext F H (upd F a o) (upd H a o):=by
 refine⟨ye (s.free n),ye n,λb u e=>?_,λb h=>?_⟩
 ·by_cases hb:b=a
  ·subst hb;rw[zy] at e ⊢;exact e
  ·rw[zr hb] at e ⊢;exact s b u e
 ·by_cases hb:b=a
  ·subst hb;exact .inr n
  ·rw[zr hb] at h;exact .inl h
theorem Ext.freeze {a:Addr}{o:HO}(x:Ext F H F' H')(n:H a=none)(n':F' a=none)(e:H' a=some o):Ext F H (upd F' a o) H':=by
 refine⟨x.ff.trans (ye n'),x.hh,λb u q=>?_,λb h=>?_⟩
 ·by_cases hb:b=a
  ·subst hb;rw[zy] at q;cases q;exact e
  ·rw[zr hb] at q;exact x.fh b u q
 ·by_cases hb:b=a
  ·subst hb;exact .inr n
  ·rw[zr hb] at h;exact x.nw b h
def Rq (K:KW)(F H:Hp)(d:D)(v:V):Prop:=Rp K F d v∨∃a vs ds,d=.lst ds/\v=.ref a/\H a=some (.lst vs)/\Rps K F ds vs
theorem Rq.mono (f:Same F F')(h:Same H H'){d:D}{v:V}(r:Rq K F H d v):Rq K F' H' d v:=by
 rcases r with r | ⟨a,vs,ds,e1,e2,e3,e4⟩
 ·exact .inl (r.mono f)
 ·exact .inr ⟨a,vs,ds,e1,e2,h _ _ e3,e4.mono f⟩
theorem Rq.lst (s:Same F H){ds:List D}{v:V}(r:Rq K F H (.lst ds) v):∃a vs,v=.ref a/\H a=some (.lst vs)/\Rps K F ds vs:=by
 rcases r with⟨a,vs,e,q,r⟩ | ⟨a,vs,ds',e1,e2,e3,e4⟩
 ·exact⟨a,vs,e,s _ _ q,r⟩
 ·cases e1;exact⟨a,vs,e2,e3,e4⟩
theorem Rq.one {d:D}{v:V}(r:Rq K F H d v)(h:∀ds,d≠.lst ds):Rp K F d v:=by
 rcases r with r | ⟨a,vs,ds,e1,_⟩
 ·exact r
 ·exact (h ds e1).elim
theorem Rq.int {i:Int}{v:V}(r:Rq K F H (.int i) v):v=.int i:=r.one λ_ h=>by cases h
theorem Rq.bl {i:Bool}{v:V}(r:Rq K F H (.bl i) v):v=.bl i:=r.one λ_ h=>by cases h
theorem Rq.str {i:Str}{v:V}(r:Rq K F H (.str i) v):v=.str i:=r.one λ_ h=>by cases h
theorem Rq.non {v:V}(r:Rq K F H .non v):v=.non:=r.one λ_ h=>by cases h
theorem Rq.tup (s:Same F H){ds:List D}{v:V}(r:Rq K F H (.tup ds) v):∃a vs,v=.ref a/\H a=some (.tup vs)/\Rps K F ds vs:=by
 obtain⟨a,vs,e,q,r⟩:=r.one λ_ h=>by cases h
 exact⟨a,vs,e,s _ _ q,r⟩
theorem Rq.scr (s:Same F H){ns:List Int}{v:V}(r:Rq K F H (.scr ns) v):∃a,v=.ref a/\SqL K H a (ns.map V.int):=by
 obtain⟨a,e,q⟩:=r.one λ_ h=>by cases h
 exact⟨a,e,s.seq q⟩
end
inductive OT where
 |frz (d:D) | lst (ts:List OT) | tup (ts:List OT)
mutual
def RepO (K:KW)(F H:Hp):OT->V->Prop
 |.frz d,v=>Rp K F d v
 |.lst ts,v=>∃a vs,v=.ref a/\H a=some (.lst vs)/\RepOs K F H ts vs
 |.tup ts,v=>∃a vs,v=.ref a/\H a=some (.tup vs)/\RepOs K F H ts vs
def RepOs (K:KW)(F H:Hp):List OT->List V->Prop
 | [],vs=>vs=[]
 |t::ts,vs=>∃v r,vs=v::r/\RepO K F H t v/\RepOs K F H ts r
end
def itemsH (H:Hp)(a:Addr):List V:=match H a with
 |some (.lst vs)=>vs
 |some (.tup vs)=>vs
 |_=>[]
mutual
def feetO (H:Hp):OT->V->List Addr
 |.frz _,_=>[]
 |.lst ts,v=>match v with
  |.ref a=>a::feetOs H ts (itemsH H a)
  |_=>[]
 |.tup ts,v=>match v with
  |.ref a=>a::feetOs H ts (itemsH H a)
  |_=>[]
def feetOs (H:Hp):List OT->List V->List Addr
 | [],_=>[]
 |t::ts,vs=>match vs with
  |v::r=>feetO H t v++feetOs H ts r
  | []=>[]
end
mutual
def OT.erase:OT->D
 |.frz d=>d
 |.lst ts=>.lst (erases ts)
 |.tup ts=>.tup (erases ts)
def erases:List OT->List D
 | []=>[]
 |t::ts=>t.erase::erases ts
end
theorem y0 {H:Hp}{a:Addr}{vs:List V}(h:H a=some (.lst vs)):itemsH H a=vs:=by unfold itemsH;rw[h]
theorem yD {H:Hp}{a:Addr}{vs:List V}(h:H a=some (.tup vs)):itemsH H a=vs:=by unfold itemsH;rw[h]
section
variable {K:KW}{F F' H H':Hp}
mutual
theorem RepO.ext (f:Same F F')(h:Same H H'):∀ {t:OT} {v:V},RepO K F H t v->RepO K F' H' t v/\feetO H' t v=feetO H t v
 |.frz _,_,r=>⟨Rp.mono f r,rfl⟩
 |.lst ts,_,⟨a,vs,e,q,r⟩=>by
  subst e
  obtain⟨r1,r2⟩:=RepOs.ext f h r
  exact⟨⟨a,vs,rfl,h _ _ q,r1⟩,by simp only[feetO,y0 q,y0 (h _ _ q),r2]⟩
 |.tup ts,_,⟨a,vs,e,q,r⟩=>by
  subst e
  obtain⟨r1,r2⟩:=RepOs.ext f h r
  exact⟨⟨a,vs,rfl,h _ _ q,r1⟩,by simp only[feetO,yD q,yD (h _ _ q),r2]⟩
theorem RepOs.ext (f:Same F F')(h:Same H H'):∀ {ts:List OT} {vs:List V},RepOs K F H ts vs->RepOs K F' H' ts vs/\feetOs H' ts vs=feetOs H ts vs
 | [],_,r=>⟨r,rfl⟩
 |t::ts,_,⟨v,r,e,h1,h2⟩=>by
  subst e
  obtain⟨a1,a2⟩:=RepO.ext f h h1
  obtain⟨b1,b2⟩:=RepOs.ext f h h2
  exact⟨⟨v,r,rfl,a1,b1⟩,by simp only[feetOs,a2,b2]⟩
end
mutual
theorem RepO.other {a:Addr}{o:HO}:∀ {t:OT} {v:V},RepO K F H t v->a∉feetO H t v->RepO K F (upd H a o) t v/\feetO (upd H a o) t v=feetO H t v
 |.frz _,_,r,_=>⟨r,rfl⟩
 |.lst ts,_,⟨b,vs,e,q,r⟩,hn=>by
  subst e
  simp only[feetO,y0 q,List.mem_cons,not_or] at hn
  obtain⟨r1,r2⟩:=RepOs.other (o:=o) r hn.2
  have q':upd H a o b=some (.lst vs):=by rw[zr (Ne.symm hn.1)];exact q
  exact⟨⟨b,vs,rfl,q',r1⟩,by simp only[feetO,y0 q,y0 q',r2]⟩
 |.tup ts,_,⟨b,vs,e,q,r⟩,hn=>by
  subst e
  simp only[feetO,yD q,List.mem_cons,not_or] at hn
  obtain⟨r1,r2⟩:=RepOs.other (o:=o) r hn.2
  have q':upd H a o b=some (.tup vs):=by rw[zr (Ne.symm hn.1)];exact q
  exact⟨⟨b,vs,rfl,q',r1⟩,by simp only[feetO,yD q,yD q',r2]⟩
theorem RepOs.other {a:Addr}{o:HO}:∀ {ts:List OT} {vs:List V},RepOs K F H ts vs->a∉feetOs H ts vs->RepOs K F (upd H a o) ts vs/\feetOs (upd H a o) ts vs=feetOs H ts vs
 | [],_,r,_=>⟨r,rfl⟩
 |t::ts,_,⟨v,r,e,h1,h2⟩,hn=>by
  subst e
  simp only[feetOs,List.mem_append,not_or] at hn
  obtain⟨a1,a2⟩:=RepO.other (o:=o) h1 hn.1
  obtain⟨b1,b2⟩:=RepOs.other (o:=o) h2 hn.2
  exact⟨⟨v,r,rfl,a1,b1⟩,by simp only[feetOs,a2,b2]⟩
end
mutual
theorem RepO.feet {a:Addr}:∀ {t:OT} {v:V},RepO K F H t v->a∈feetO H t v->H a≠none
 |.frz _,_,_,h=>by simp[feetO] at h
 |.lst ts,_,⟨b,vs,e,q,r⟩,h=>by
  subst e
  simp only[feetO,y0 q,List.mem_cons] at h
  rcases h with rfl | h
  ·rw[q];simp
  ·exact RepOs.feet r h
 |.tup ts,_,⟨b,vs,e,q,r⟩,h=>by
  subst e
  simp only[feetO,yD q,List.mem_cons] at h
  rcases h with rfl | h
  ·rw[q];simp
  ·exact RepOs.feet r h
theorem RepOs.feet {a:Addr}:∀ {ts:List OT} {vs:List V},RepOs K F H ts vs->a∈feetOs H ts vs->H a≠none
 | [],_,_,h=>by simp[feetOs] at h
 |t::ts,_,⟨v,r,e,h1,h2⟩,h=>by
  subst e
  simp only[feetOs,List.mem_append] at h
  rcases h with h | h
  ·exact RepO.feet h1 h
  ·exact RepOs.feet h2 h
end
mutual
theorem RepO.feet_no {a:Addr}:∀ {t:OT} {v:V},RepO K F H t v->a∈feetO H t v->∀z,H a≠some (.own z)
 |.frz _,_,_,h,_=>by simp[feetO] at h
 |.lst ts,_,⟨b,vs,e,q,r⟩,h,z=>by
  subst e
  simp only[feetO,y0 q,List.mem_cons] at h
  rcases h with rfl | h
  ·rw[q];intro w;cases w
  ·exact RepOs.feet_no r h z
 |.tup ts,_,⟨b,vs,e,q,r⟩,h,z=>by
  subst e
  simp only[feetO,yD q,List.mem_cons] at h
  rcases h with rfl | h
  ·rw[q];intro w;cases w
  ·exact RepOs.feet_no r h z
theorem RepOs.feet_no {a:Addr}:∀ {ts:List OT} {vs:List V},RepOs K F H ts vs->a∈feetOs H ts vs->∀z,H a≠some (.own z)
 | [],_,_,h,_=>by simp[feetOs] at h
 |t::ts,_,⟨v,r,e,h1,h2⟩,h,z=>by
  subst e
  simp only[feetOs,List.mem_append] at h
  rcases h with h | h
  ·exact RepO.feet_no h1 h z
  ·exact RepOs.feet_no h2 h z
end
def addF (F H:Hp)(as:List Addr):Hp:=λb=>if b∈as then H b else F b
mutual
theorem RepO.fz {as:List Addr}(f:Same F (addF F H as)):∀ {t:OT} {v:V},RepO K F H t v->(∀a∈feetO H t v,a∈as)->Rp K (addF F H as) t.erase v
 |.frz _,_,r,_=>Rp.mono f r
 |.lst ts,_,⟨b,vs,e,q,r⟩,h=>by
  subst e
  simp only[feetO,y0 q] at h
  exact⟨b,vs,rfl,by unfold addF;rw[if_pos (h b (by simp))];exact q,RepOs.fz f r λa ha=>h a (by simp[ha])⟩
 |.tup ts,_,⟨b,vs,e,q,r⟩,h=>by
  subst e
  simp only[feetO,yD q] at h
  exact⟨b,vs,rfl,by unfold addF;rw[if_pos (h b (by simp))];exact q,RepOs.fz f r λa ha=>h a (by simp[ha])⟩
theorem RepOs.fz {as:List Addr}(f:Same F (addF F H as)):∀ {ts:List OT} {vs:List V},RepOs K F H ts vs->(∀a∈feetOs H ts vs,a∈as)->Rps K (addF F H as) (erases ts) vs
 | [],_,r,_=>r
 |t::ts,_,⟨v,r,e,h1,h2⟩,h=>by
  subst e
  simp only[feetOs] at h
  exact⟨v,r,rfl,RepO.fz f h1 λa ha=>h a (by simp[ha]),RepOs.fz f h2 λa ha=>h a (by simp[ha])⟩
end
theorem jO {as:List Addr}(h:∀a∈as,F a=none):Same F (addF F H as):=λb u e=>by
 unfold addF
 rw[if_neg λz=>by rw[h b z] at e;cases e]
 exact e
end
def Rkv (K:KW)(F:Hp)(kvs:List (Key×D))(vs:List (Key×V)):Prop:=Paired (λp q=>p.1=q.1/\Rp K F p.2 q.2) kvs vs
theorem Rkv.mono {K:KW}{F F':Hp}(s:Same F F'){kvs:List (Key×D)}{vs:List (Key×V)}(r:Rkv K F kvs vs):Rkv K F' kvs vs:=Paired.mapP r λ_ _ h=>⟨h.1,h.2.mono s⟩
inductive En where
 |val (d:D) | acc (ds:List D) | bor (ds:List D) | oac (a dx C:Addr) (fs:List Str) (ds:List D) | tre (t:OT)
  |dct (oa:Option Addr) (kvs:List (Key×D)) | dbo (kvs:List (Key×D))
  |exn (a:Addr)
  |obw (C:Addr) (fs:List Str) (ds:List D)
abbrev EnvD:=List (Option En)
structure Bs where
 F0:Hp
 H0:Hp
def RepE (K:KW)(B:Bs)(F H:Hp):En->V->Prop
 |.val d,v=>Rp K F d v
 |.acc ds,v=>∃a vs,v=.ref a/\H a=some (.lst vs)/\F a=none/\B.H0 a=none/\Rps K F ds vs
 |.bor ds,v=>∃a vs,v=.ref a/\B.H0 a=some (.lst vs)/\Rps K F ds vs
 |.oac a dx C fs ds,v=>∃vs,v=.ref a/\H a=some (.ins C dx (fs.zip vs))/\fs.length=vs.length/\F a=none/\B.H0 a=none/\Rps K F ds vs/\H dx=some (.own a)/\F dx=none/\B.H0 dx=none
 |.tre t,v=>RepO K F H t v/\(feetO H t v).Nodup/\∀a∈feetO H t v,F a=none/\B.H0 a=none
 |.dct oa kvs,v=>∃a ob vs,v=.ref a/\H a=some (DX K.w a ob vs)/\F a=none/\B.H0 a=none/\Rkv K F kvs vs/\∀b,oa=some b->b=a
 |.dbo kvs,v=>∃a ob vs,v=.ref a/\B.H0 a=some (DX K.w a ob vs)/\Rkv K F kvs vs
 |.exn a,v=>v=.ref a
 |.obw C fs ds,v=>∃a dx vs,v=.ref a/\H a=some (.ins C dx (fs.zip vs))/\fs.length=vs.length/\F a=none/\B.H0 a=none/\Rps K F ds vs/\H dx=some (.own a)/\F dx=none/\B.H0 dx=none
def En.own:En->Bool
 |.acc _=>true
 |.dct _ _=>true
 |.oac _ _ _ _ _=>true
 |.obw _ _ _=>true
 |_=>false
def feetE (H:Hp):En->V->List Addr
 |.acc _,v=>match v with
  |.ref a=>[a]
  |_=>[]
 |.oac _ _ _ _ _,v=>match v with
  |.ref a=>[a]
  |_=>[]
 |.tre t,v=>feetO H t v
 |.obw _ _ _,v=>match v with
  |.ref a=>[a]
  |_=>[]
 |.dct _ _,v=>match v with
  |.ref a=>[a]
  |_=>[]
 |_,_=>[]
theorem Y8 {H:Hp}{x:En}{a:Addr}(o:x.own=true):feetE H x (.ref a)=[a]:=by cases x<;>first | rfl | cases o
structure Rep (K:KW)(B:Bs)(F:Hp)(σ:St)(H:Hp)(ρ:EnvD):Prop where
 ex:Ext B.F0 B.H0 F H
 len:σ.length=ρ.length
 ents:∀(i:Nat) x,ρ[i]?=some (some x)->∃v,σ[i]?=some (some v)/\RepE K B F H x v
 dj:∀(i j:Nat) x y v w,ρ[i]?=some (some x)->ρ[j]?=some (some y)->σ[i]?=some (some v)->σ[j]?=some (some w)->i≠j->∀a∈feetE H x v,a∉feetE H y w
section
variable {K:KW}{B:Bs}{F F' H H':Hp}{σ:St}{ρ:EnvD}
theorem yM {a:Addr}(e:Ext F H F' H')(h:F a=none)(hh:H a≠none):F' a=none:=by
 cases q:F' a with
 |none=>rfl
 |some o=>exact ((e.nw a (by rw[q];simp)).elim (λz=>(z h).elim) λz=>(hh z).elim)
theorem RepE.ext {x:En}{v:V}(r:RepE K B F H x v)(e:Ext F H F' H'):RepE K B F' H' x v:=by
 cases x with
 |val d=>exact Rp.mono e.ff r
 |acc ds=>
  obtain⟨a,vs,e1,e2,e3,e4,e5⟩:=r
  exact⟨a,vs,e1,e.hh _ _ e2,yM e e3 (by rw[e2];simp),e4,e5.mono e.ff⟩
 |bor ds=>
  obtain⟨a,vs,e1,e2,e5⟩:=r
  exact⟨a,vs,e1,e2,e5.mono e.ff⟩
 |oac a dx C fs ds=>
  obtain⟨vs,e1,e2,el,e3,e4,e5,d1,d2,d3⟩:=r
  exact⟨vs,e1,e.hh _ _ e2,el,yM e e3 (by rw[e2];simp),e4,e5.mono e.ff,e.hh _ _ d1,yM e d2 (by rw[d1];simp),d3⟩
 |tre t=>
  obtain⟨r1,r2,r3⟩:=r
  obtain⟨s1,s2⟩:=RepO.ext e.ff e.hh r1
  refine⟨s1,by rw[s2];exact r2,λa ha=>?_⟩
  rw[s2] at ha
  exact⟨yM e (r3 a ha).1 (RepO.feet r1 ha),(r3 a ha).2⟩
 |dct oa kvs=>
  obtain⟨a,ob,vs,e1,e2,e3,e4,e5,e6⟩:=r
  exact⟨a,ob,vs,e1,e.hh _ _ e2,yM e e3 (by rw[e2];simp),e4,e5.mono e.ff,e6⟩
 |dbo kvs=>
  obtain⟨a,ob,vs,e1,e2,e5⟩:=r
  exact⟨a,ob,vs,e1,e2,e5.mono e.ff⟩
 |exn a=>exact r
 |obw C fs ds=>
  obtain⟨a,dx,vs,e1,e2,el,e3,e4,e5,d1,d2,d3⟩:=r
  exact⟨a,dx,vs,e1,e.hh _ _ e2,el,yM e e3 (by rw[e2];simp),e4,e5.mono e.ff,e.hh _ _ d1,yM e d2 (by rw[d1];simp),d3⟩
theorem RepE.feet_ext {x:En}{v:V}(r:RepE K B F H x v)(e:Same H H'):feetE H' x v=feetE H x v:=by
 cases x with
 |tre t=>exact (RepO.ext (Same.refl F) e r.1).2
 |_=>rfl
theorem RepE.feet_at {x:En}{v:V}{a:Addr}(r:RepE K B F H x v)(h:a∈feetE H x v):H a≠none/\F a=none/\B.H0 a=none:=by
 cases x with
 |val d=>cases h
 |bor ds=>cases h
 |acc ds=>
  obtain⟨b,vs,rfl,e2,e3,e4,e5⟩:=r
  simp only[feetE,List.mem_singleton] at h
  subst h
  exact⟨by rw[e2];simp,e3,e4⟩
 |oac b dx C fs ds=>
  obtain⟨vs,rfl,e2,el,e3,e4,e5⟩:=r
  simp only[feetE,List.mem_singleton] at h
  subst h
  exact⟨by rw[e2];simp,e3,e4⟩
 |tre t=>exact⟨RepO.feet r.1 h,r.2.2 a h⟩
 |dct oa kvs=>
  obtain⟨b,ob,vs,rfl,e2,e3,e4,e5⟩:=r
  simp only[feetE,List.mem_singleton] at h
  subst h
  exact⟨by rw[e2];simp,e3,e4⟩
 |dbo kvs=>cases h
 |exn a=>cases h
 |obw C fs ds=>
  obtain⟨b,dx,vs,rfl,e2,el,e3,e4,e5⟩:=r
  simp only[feetE,List.mem_singleton] at h
  subst h
  exact⟨by rw[e2];simp,e3,e4⟩
theorem RepE.feet_no {x:En}{v:V}{a:Addr}(r:RepE K B F H x v)(h:a∈feetE H x v)(z:Addr):H a≠some (.own z):=by
 cases x with
 |val d=>cases h
 |bor ds=>cases h
 |acc ds=>
  obtain⟨b,vs,rfl,e2,_⟩:=r
  simp only[feetE,List.mem_singleton] at h
  subst h
  rw[e2];intro q;cases q
 |oac b dx C fs ds=>
  obtain⟨vs,rfl,e2,_⟩:=r
  simp only[feetE,List.mem_singleton] at h
  subst h
  rw[e2];intro q;cases q
 |tre t=>exact RepO.feet_no r.1 h z
 |dct oa kvs=>
  obtain⟨b,ob,vs,rfl,e2,_⟩:=r
  simp only[feetE,List.mem_singleton] at h
  subst h
  rw[e2];intro q;cases q
 |dbo kvs=>cases h
 |exn a=>cases h
 |obw C fs ds=>
  obtain⟨b,dx,vs,rfl,e2,_⟩:=r
  simp only[feetE,List.mem_singleton] at h
  subst h
  rw[e2];intro q;cases q
theorem Rep.ext (r:Rep K B F σ H ρ)(e:Ext F H F' H'):Rep K B F' σ H' ρ:=by
 refine⟨r.ex.trans e,r.len,λi x h=>let ⟨v,h1,h2⟩:=r.ents i x h;⟨v,h1,h2.ext e⟩,λi j x y v w e1 e2 s1 s2 hne a ha hb=>?_⟩
 obtain⟨v',q1,p1⟩:=r.ents i x e1
 rw[s1] at q1;cases q1
 obtain⟨w',q2,p2⟩:=r.ents j y e2
 rw[s2] at q2;cases q2
 rw[p1.feet_ext e.hh] at ha
 rw[p2.feet_ext e.hh] at hb
 exact r.dj i j x y v w e1 e2 s1 s2 hne a ha hb
theorem Rep.fh (r:Rep K B F σ H ρ):Same F H:=r.ex.fh
theorem yo {α:Type}{l:List α}{i j:Nat}{x y:α}(h:(l.set i x)[j]?=some y):(j=i/\x=y/\i < l.length)∨(j≠i/\l[j]?=some y):=by
 by_cases hj:j=i
 ·subst hj
  have hl:j < l.length:=by
   have:=(List.getElem?_eq_some_iff.mp h).1
   simpa using this
  rw[List.getElem?_set_self hl] at h
  cases h
  exact .inl ⟨rfl,rfl,hl⟩
 ·rw[List.getElem?_set_ne (Ne.symm hj)] at h
  exact .inr ⟨hj,h⟩
theorem Rep.seto (r:Rep K B F σ H ρ){i:Nat}{x:En}{v:V}(h:RepE K B F H x v)(hn:∀(j:Nat) y w,ρ[j]?=some (some y)->σ[j]?=some (some w)->j≠i->∀a∈feetE H x v,a∉feetE H y w):Rep K B F (σ.set i (some v)) H (ρ.set i (some x)):=by
 refine⟨r.ex,by simp[r.len],λj y e=>?_,λj k y z u w e1 e2 s1 s2 hne a ha hb=>?_⟩
 ·rcases yo e with⟨rfl,q,hl⟩ | ⟨hj,e⟩
  ·cases q
   exact⟨v,List.getElem?_set_self (by rw[r.len];exact hl),h⟩
  ·obtain⟨w,h1,h2⟩:=r.ents j y e
   exact⟨w,by rw[List.getElem?_set_ne (Ne.symm hj)];exact h1,h2⟩
 ·rcases yo e1 with⟨rfl,q1,_⟩ | ⟨hj,f1⟩<;>rcases yo e2 with⟨rfl,q2,_⟩ | ⟨hk,f2⟩
  ·exact hne rfl
  ·cases q1
   rcases yo s1 with⟨_,p1,_⟩ | ⟨z,_⟩
   ·cases p1
    rw[List.getElem?_set_ne (Ne.symm hk)] at s2
    exact hn k z w f2 s2 hk a ha hb
   ·exact (z rfl).elim
  ·cases q2
   rcases yo s2 with⟨_,p2,_⟩ | ⟨z,_⟩
   ·cases p2
    rw[List.getElem?_set_ne (Ne.symm hj)] at s1
    exact hn j y u f1 s1 hj a hb ha
   ·exact (z rfl).elim
  ·rw[List.getElem?_set_ne (Ne.symm hj)] at s1
   rw[List.getElem?_set_ne (Ne.symm hk)] at s2
   exact r.dj j k y z u w f1 f2 s1 s2 hne a ha hb
theorem Rep.setv (r:Rep K B F σ H ρ){i:Nat}{d:D}{v:V}(h:Rp K F d v):Rep K B F (σ.set i (some v)) H (ρ.set i (some (.val d))) :=
 r.seto (x:=.val d) h λ_ _ _ _ _ _ a ha=>by cases ha
theorem RepE.other {x:En}{v:V}{a:Addr}{o:HO}(r:RepE K B F H x v)(hn:a∉feetE H x v)(h0:B.H0 a=none)(hw:∀z,H a≠some (.own z)):RepE K B F (upd H a o) x v/\feetE (upd H a o) x v=feetE H x v:=by
 cases x with
 |val d=>exact⟨r,rfl⟩
 |bor ds=>exact⟨r,rfl⟩
 |acc ds=>
  obtain⟨b,vs,rfl,q2,q3,q4,q5⟩:=r
  have hb:b≠a:=λz=>hn (by simp[feetE,z])
  exact⟨⟨b,vs,rfl,by rw[zr hb];exact q2,q3,q4,q5⟩,rfl⟩
 |oac b dx C fs ds=>
  obtain⟨vs,rfl,q2,ql,q3,q4,q5,d1,d2,d3⟩:=r
  have hb:b≠a:=λz=>hn (by simp[feetE,z])
  have hd:dx≠a:=λz=>hw b (by rw[<-z];exact d1)
  exact⟨⟨vs,rfl,by rw[zr hb];exact q2,ql,q3,q4,q5,by rw[zr hd];exact d1,d2,d3⟩,rfl⟩
 |tre t=>
  obtain⟨r1,r2,r3⟩:=r
  obtain⟨s1,s2⟩:=RepO.other (o:=o) r1 hn
  exact⟨⟨s1,by rw[s2];exact r2,λb hb=>r3 b (by rw[s2] at hb;exact hb)⟩,s2⟩
 |dct oa kvs=>
  obtain⟨b,ob,vs,rfl,q2,q3,q4,q5⟩:=r
  have hb:b≠a:=λz=>hn (by simp[feetE,z])
  exact⟨⟨b,ob,vs,rfl,by rw[zr hb];exact q2,q3,q4,q5⟩,rfl⟩
 |dbo kvs=>exact⟨r,rfl⟩
 |exn a=>exact⟨r,rfl⟩
 |obw C fs ds=>
  obtain⟨b,dx,vs,rfl,q2,ql,q3,q4,q5,d1,d2,d3⟩:=r
  have hb:b≠a:=λz=>hn (by simp[feetE,z])
  have hd:dx≠a:=λz=>hw b (by rw[<-z];exact d1)
  exact⟨⟨b,dx,vs,rfl,by rw[zr hb];exact q2,ql,q3,q4,q5,by rw[zr hd];exact d1,d2,d3⟩,rfl⟩
theorem Rep.writeG (r:Rep K B F σ H ρ){i:Nat}{x y:En}{v:V}{a:Addr}{o:HO}(hi:ρ[i]?=some (some x))(hs:σ[i]?=some (some v))(ha:a∈feetE H x v)(hy:RepE K B F (upd H a o) y v)(hsub:∀b∈feetE (upd H a o) y v,b∈feetE H x v) :
  Rep K B F σ (upd H a o) (ρ.set i (some y)):=by
 have hl:i < ρ.length:=(List.getElem?_eq_some_iff.mp hi).1
 obtain⟨v',hv',rx⟩:=r.ents i x hi
 rw[hs] at hv';cases hv'
 obtain⟨_,hf,h0⟩:=rx.feet_at ha
 have oth:∀ {j:Nat} {z:En} {w:V},ρ[j]?=some (some z)->σ[j]?=some (some w)->j≠i->RepE K B F (upd H a o) z w/\feetE (upd H a o) z w=feetE H z w:=fun {j z w} e s hj=>by
  obtain⟨w',hw',rz⟩:=r.ents j z e
  rw[s] at hw';cases hw'
  exact rz.other (λhz=>r.dj i j x z v w hi e hs s (Ne.symm hj) a ha hz) h0 (rx.feet_no ha)
 refine⟨⟨r.ex.ff,λb u e=>?_,λb u e=>?_,r.ex.nw⟩,by simp[r.len],λj z e=>?_,λj k z w u t e1 e2 s1 s2 hne b hb hc=>?_⟩
 ·rw[zr (zH e h0)];exact r.ex.hh b u e
 ·rw[zr (zH e hf)];exact r.ex.fh b u e
 ·rcases yo e with⟨rfl,q,_⟩ | ⟨hj,e⟩
  ·cases q;exact⟨v,hs,hy⟩
  ·obtain⟨w,h1,_⟩:=r.ents j z e
   exact⟨w,h1,(oth e h1 hj).1⟩
 ·rcases yo e1 with⟨rfl,q1,_⟩ | ⟨hj,f1⟩<;>rcases yo e2 with⟨rfl,q2,_⟩ | ⟨hk,f2⟩
  ·exact hne rfl
  ·cases q1
   rw[hs] at s1;cases s1
   rw[(oth f2 s2 hk).2] at hc
   exact r.dj _ k x w v t hi f2 hs s2 hne b (hsub b hb) hc
  ·cases q2
   rw[hs] at s2;cases s2
   rw[(oth f1 s1 hj).2] at hb
   exact r.dj j _ z x u v f1 hi s1 hs hne b hb (hsub b hc)
  ·rw[(oth f1 s1 hj).2] at hb
   rw[(oth f2 s2 hk).2] at hc
   exact r.dj j k z w u t f1 f2 s1 s2 hne b hb hc
theorem Rep.write (r:Rep K B F σ H ρ){i:Nat}{x y:En}{a:Addr}{o:HO}(hi:ρ[i]?=some (some x))(ho:x.own=true)(hs:σ[i]?=some (some (.ref a)))(hf:F a=none)(h0:B.H0 a=none)(hy:RepE K B F (upd H a o) y (.ref a))(hyo:y.own=true) :
  Rep K B F σ (upd H a o) (ρ.set i (some y)) :=
 r.writeG hi hs (by rw[Y8 ho];simp) hy λb hb=>by rw[Y8 hyo] at hb;rw[Y8 ho];exact hb
theorem Rep.frzG (r:Rep K B F σ H ρ){i:Nat}{x:En}{v:V}{d:D}(hi:ρ[i]?=some (some x))(hs:σ[i]?=some (some v))(hd:Rp K (addF F H (feetE H x v)) d v):Rep K B (addF F H (feetE H x v)) σ H (ρ.set i (some (.val d))):=by
 obtain⟨v',hv',rx⟩:=r.ents i x hi
 rw[hs] at hv';cases hv'
 have sf:Same F (addF F H (feetE H x v)):=jO λa ha=>(rx.feet_at ha).2.1
 have non:∀ {b:Addr},F b=none->b∉feetE H x v->addF F H (feetE H x v) b=none:=fun {b} h hn=>by unfold addF;rw[if_neg hn];exact h
 refine⟨⟨r.ex.ff.trans sf,r.ex.hh,λb u e=>?_,λb e=>?_⟩,by simp[r.len],λj z e=>?_,λj k z w u t e1 e2 s1 s2 hne b hb hc=>?_⟩
 ·unfold addF at e
  split at e
  ·exact e
  ·exact r.ex.fh b u e
 ·unfold addF at e
  split at e
  ·rename_i hb;exact .inr (rx.feet_at hb).2.2
  ·exact r.ex.nw b e
 ·rcases yo e with⟨rfl,q,_⟩ | ⟨hj,e⟩
  ·cases q;exact⟨v,hs,hd⟩
  ·obtain⟨w,h1,h2⟩:=r.ents j z e
   refine⟨w,h1,?_⟩
   have hx:∀b∈feetE H z w,b∉feetE H x v:=λb hb hc=>r.dj j i z x w v e hi h1 hs hj b hb hc
   cases z with
   |val d=>exact Rp.mono sf h2
   |bor ds=>obtain⟨b,vs,q1,q2,q3⟩:=h2;exact⟨b,vs,q1,q2,q3.mono sf⟩
   |acc ds=>
    obtain⟨b,vs,rfl,q2,q3,q4,q5⟩:=h2
    exact⟨b,vs,rfl,q2,non q3 (hx b (by simp[feetE])),q4,q5.mono sf⟩
   |oac b dx C fs ds=>
    obtain⟨vs,rfl,q2,ql,q3,q4,q5,d1,d2,d3⟩:=h2
    exact⟨vs,rfl,q2,ql,non q3 (hx b (by simp[feetE])),q4,q5.mono sf,d1,non d2 (λhz=>rx.feet_no hz _ d1),d3⟩
   |tre t=>
    obtain⟨r1,r2,r3⟩:=h2
    exact⟨(RepO.ext sf (Same.refl H) r1).1,r2,λb hb=>⟨non (r3 b hb).1 (hx b hb),(r3 b hb).2⟩⟩
   |dct oa kvs=>
    obtain⟨b,ob,vs,rfl,q2,q3,q4,q5,q6⟩:=h2
    exact⟨b,ob,vs,rfl,q2,non q3 (hx b (by simp[feetE])),q4,q5.mono sf,q6⟩
   |dbo kvs=>obtain⟨b,ob,vs,q1,q2,q3⟩:=h2;exact⟨b,ob,vs,q1,q2,q3.mono sf⟩
   |exn a=>exact h2
   |obw C fs ds=>
    obtain⟨b,dx,vs,rfl,q2,ql,q3,q4,q5,d1,d2,d3⟩:=h2
    exact⟨b,dx,vs,rfl,q2,ql,non q3 (hx b (by simp[feetE])),q4,q5.mono sf,d1,non d2 (λhz=>rx.feet_no hz _ d1),d3⟩
 ·rcases yo e1 with⟨rfl,q1,_⟩ | ⟨hj,f1⟩
  ·cases q1;cases hb
  ·rcases yo e2 with⟨rfl,q2,_⟩ | ⟨hk,f2⟩
   ·cases q2;cases hc
   ·exact r.dj j k z w u t f1 f2 s1 s2 hne b hb hc
def frzE (i:Nat)(ρ:EnvD):EnvD:=match ρ[i]? with
 |some (some (.acc ds))=>ρ.set i (some (.val (.lst ds)))
 |some (some (.oac _ _ C fs ds))=>ρ.set i (some (.val (.obj C fs ds)))
 |some (some (.tre t))=>ρ.set i (some (.val t.erase))
 |_=>ρ
theorem Rep.frz (r:Rep K B F σ H ρ)(i:Nat):∃F',Same F F'/\Rep K B F' σ H (frzE i ρ):=by
 unfold frzE
 split
 ·rename_i ds hi
  obtain⟨v,hs,rx⟩:=r.ents i _ hi
  have sf:Same F (addF F H (feetE H (.acc ds) v)):=jO λa ha=>(rx.feet_at ha).2.1
  refine⟨_,sf,r.frzG hi hs ?_⟩
  obtain⟨a,vs,rfl,e2,e3,e4,e5⟩:=rx
  exact⟨a,vs,rfl,by unfold addF;rw[if_pos (by simp[feetE])];exact e2,e5.mono sf⟩
 ·rename_i a dx C fs ds hi
  obtain⟨v,hs,rx⟩:=r.ents i _ hi
  have sf:Same F (addF F H (feetE H (.oac a dx C fs ds) v)):=jO λb hb=>(rx.feet_at hb).2.1
  refine⟨_,sf,r.frzG hi hs ?_⟩
  obtain⟨vs,rfl,e2,el,e3,e4,e5,_⟩:=rx
  exact⟨a,dx,vs,rfl,by unfold addF;rw[if_pos (by simp[feetE])];exact e2,el,e5.mono sf⟩
 ·rename_i t hi
  obtain⟨v,hs,rx⟩:=r.ents i _ hi
  have sf:Same F (addF F H (feetE H (.tre t) v)):=jO λb hb=>(rx.feet_at hb).2.1
  exact⟨_,sf,r.frzG hi hs (RepO.fz sf rx.1 λa ha=>ha)⟩
 ·exact⟨F,Same.refl _,r⟩
end
abbrev Post (α:Type):=Hp->Hp->Hp->Hp->α->V->Prop
def lG {α:Type}(K:KW)(B:Bs)(post:Post α)(g:EnvD->Option α):TE:=λσ H Q=>
 ∃F ρ x,Rep K B F σ H ρ/\g ρ=some x/\∀v F' H',Ext F H F' H'->post F H F' H' x v->Q v H'
def pE (K:KW):Post D:=λ_ _ F' _ d v=>Rp K F' d v
def pR (K:KW):Post D:=λ_ _ F' H' d v=>Rq K F' H' d v
def pA (K:KW):Post #[3]:=λ_ H F' H' ds v=>∃a vs,v=.ref a/\H a=none/\H' a=some (.lst vs)/\F' a=none/\Rps K F' ds vs
def DE (X:Cx)(B:Bs)(e:Expr)(g:EnvD->Option D):Prop:=PE X e (lG X.kw B (pE X.kw) g)
def DR (X:Cx)(B:Bs)(e:Expr)(g:EnvD->Option D):Prop:=PE X e (lG X.kw B (pR X.kw) g)
def DA (X:Cx)(B:Bs)(e:Expr)(g:EnvD->Option #[3]):Prop:=PE X e (lG X.kw B (pA X.kw) g)
def lT (K:KW)(B:Bs)(g:EnvD->Option Bool):TT:=λσ H Q=>∃F ρ b,Rep K B F σ H ρ/\g ρ=some b/\∀F' H',Ext F H F' H'->Q b H'
def DT (X:Cx)(B:Bs)(e:Expr)(g:EnvD->Option Bool):Prop:=PT X e (lT X.kw B g)
def DW (X:Cx)(B:Bs)(e:Expr)(g:EnvD->Option Bool):Prop:=PW X e (lT X.kw B g)
def lAs (K:KW)(B:Bs)(post:Post D)(g:EnvD->Option #[3]):TA:=λσ H Q=>
 ∃F ρ ds,Rep K B F σ H ρ/\g ρ=some ds/\∀vs F' H',Ext F H F' H'->Paired (λd v=>post F H F' H' d v) ds vs->Q vs H'
def DAs (X:Cx)(B:Bs)(es:List Expr)(g:EnvD->Option #[3]):Prop:=PA X es (lAs X.kw B (pE X.kw) g)
def DRs (X:Cx)(B:Bs)(es:List Expr)(g:EnvD->Option #[3]):Prop:=PA X es (lAs X.kw B (pR X.kw) g)
section
variable {X:Cx}{B:Bs}{e a b c:Expr}{es:List Expr}{pos:Pos}
theorem zt {t t':TE}(h:PE X e t)(k:∀σ H Q,t' σ H Q->t σ H Q):PE X e t':=λpins s σ H Q I q=>h pins s σ H Q I (k σ H Q q)
theorem ut {t t':TT}(h:PT X e t)(k:∀σ H Q,t' σ H Q->t σ H Q):PT X e t':=λpins s σ H Q I q=>h pins s σ H Q I (k σ H Q q)
theorem Kf {t t':TT}(h:PW X e t)(k:∀σ H Q,t' σ H Q->t σ H Q):PW X e t':=λwh pins s σ H Q I q=>h wh pins s σ H Q I (k σ H Q q)
theorem yK {t t':TA}(h:PA X es t)(k:∀σ H Q,t' σ H Q->t σ H Q):PA X es t':=λpo pins s σ H Q I q=>h po pins s σ H Q I (k σ H Q q)
theorem zD {st:Stmt}{t t':TS}(h:PS X st t)(k:∀E σ H,t' E σ H->t E σ H):PS X st t':=λpins s σ H E I q=>h pins s σ H E I (k E σ H q)
theorem xb {st:List Stmt}{t t':TS}(h:PSs X st t)(k:∀E σ H,t' E σ H->t E σ H):PSs X st t':=λpins s σ H E I q=>h pins s σ H E I (k E σ H q)
theorem kc {tg:Expr}{t t':TI}(h:PI X tg e t)(k:∀σ H Q,t' σ H Q->t σ H Q):PI X tg e t':=λpins s σ H Q I q=>h pins s σ H Q I (k σ H Q q)
theorem DE.read {g:EnvD->Option D}(h:DE X B e g):DR X B e g :=
 zt h λσ H Q ⟨F,ρ,x,r,hg,k⟩=>⟨F,ρ,x,r,hg,λv F' H' e p=>k v F' H' e (.inl p)⟩
def gFz (g:EnvD->Option #[3]):EnvD->Option D:=λρ=>(g ρ).map D.lst
theorem DA.frz {g:EnvD->Option #[3]}(h:DA X B e g):DE X B e (gFz g) :=
 zt h λσ H Q ⟨F,ρ,x,r,hg,k⟩=>by
  unfold gFz at hg
  cases q:g ρ with
  |none=>rw[q] at hg;cases hg
  |some ds=>
   rw[q] at hg;cases hg
   refine⟨F,ρ,ds,r,q,λv F' H' e p=>?_⟩
   obtain⟨a,vs,rfl,p1,p2,p3,p4⟩:=p
   exact k _ (upd F' a (.lst vs)) H' (e.freeze p1 p3 p2) ⟨a,vs,rfl,zy,p4.mono (ye p3)⟩
theorem DA.read {g:EnvD->Option #[3]}(h:DA X B e g):DR X B e (gFz g):=h.frz.read
def gv (i:Nat):EnvD->Option D:=λρ=>match ρ[i]? with
 |some (some (.val d))=>some d
 |_=>none
def gr (i:Nat):EnvD->Option D:=λρ=>match ρ[i]? with
 |some (some (.val d))=>some d
 |some (some (.acc ds))=>some (.lst ds)
 |some (some (.bor ds))=>some (.lst ds)
 |_=>none
theorem zh (i:Nat){x:Str}(h:PE X (.Name x pos) (tVar i):=by exact pv _):DE X B (.Name x pos) (gv i) :=
 zt h λσ H Q ⟨F,ρ,d,r,hg,k⟩=>by
  unfold gv at hg
  split at hg
  ·rename_i d' e
   cases hg
   obtain⟨v,h1,h2⟩:=r.ents i _ e
   exact⟨v,h1,k v F H (.refl r.fh) h2⟩
  ·cases hg
theorem za (i:Nat){x:Str}(h:PE X (.Name x pos) (tVar i):=by exact pv _):DR X B (.Name x pos) (gr i) :=
 zt h λσ H Q ⟨F,ρ,d,r,hg,k⟩=>by
  unfold gr at hg
  split at hg
  ·rename_i d' e
   cases hg
   obtain⟨v,h1,h2⟩:=r.ents i _ e
   exact⟨v,h1,k v F H (.refl r.fh) (.inl h2)⟩
  ·rename_i ds e
   cases hg
   obtain⟨v,h1,a,vs,e1,e2,e3,e4,e5⟩:=r.ents i _ e
   exact⟨v,h1,k v F H (.refl r.fh) (.inr ⟨a,vs,ds,rfl,e1,e2,e5⟩)⟩
  ·rename_i ds e
   cases hg
   obtain⟨v,h1,a,vs,e1,e2,e5⟩:=r.ents i _ e
   exact⟨v,h1,k v F H (.refl r.fh) (.inr ⟨a,vs,ds,rfl,e1,r.ex.hh _ _ e2,e5⟩)⟩
  ·cases hg
def gc (d:D):EnvD->Option D:=λ_=>some d
theorem kl {v:V}{d:D}(h:PE X e (tC v))(r:∀F,Rp X.kw F d v):DE X B e (gc d) :=
 zt h λσ H Q ⟨F,ρ,d',rr,hg,k⟩=>by cases hg;exact k v F H (.refl rr.fh) (r F)
theorem de_int {i:Int}{j}:DE X B (.Constant (.int i) j pos) (gc (.int i)):=kl Wn λ_=>rfl
theorem yi {i:Bool}{j}:DE X B (.Constant (.bool i) j pos) (gc (.bl i)):=kl zg4 λ_=>rfl
theorem yZ {j}:DE X B (.Constant .none j pos) (gc .non):=kl GJ λ_=>rfl
theorem zZ {x:Str}{j}:DE X B (.Constant (.str x) j pos) (gc (.str x)):=kl qQ λ_=>rfl
theorem y2 {x:Str}{v:V}{u:Value}{d:D}(hg:Gl X x)(hm:X.mg x=some u)(r:RelV v u)(rd:∀F,Rp X.kw F d v)(hd:#[20]=false:=by decide):DE X B (.Name x pos) (gc d) :=
 zt (Vp hg hm r hd) λσ H Q ⟨F,ρ,d',rr,hg,k⟩=>by cases hg;exact k v F H (.refl rr.fh) (rd F)
def g2 {γ:Type}(f:D->D->Option γ)(ga gb:EnvD->Option D):EnvD->Option γ:=λρ=>(ga ρ).bind λx=>(gb ρ).bind λy=>f x y
def OkR {γ:Type}(K:KW)(r:R2)(pc:Post γ)(f:D->D->Option γ):Prop :=
 ∀F H x y dx dy d Q,Same F H->Rq K F H dx x->Rq K F H dy y->f dx dy=some d->(∀v F' H',Ext F H F' H'->pc F H F' H' d v->Q v H')->r x y H Q
def Back {γ:Type}(pc:Post γ):Prop:=∀F H F1 H1 F' H' d v,Ext F H F1 H1->pc F1 H1 F' H' d v->pc F H F' H' d v
theorem jv {K:KW}:Back (pE K):=λ_ _ _ _ _ _ _ _ _ h=>h
theorem VH {K:KW}:Back (pA K):=λ_ _ _ _ _ _ _ _ e ⟨a,vs,h1,h2,h⟩=>⟨a,vs,h1,e.hh.free h2,h⟩
theorem op2 {γ:Type}{r:R2}{pc:Post γ}{f:D->D->Option γ}(hb:Back pc)(hr:OkR X.kw r pc f){ga gb:EnvD->Option D}{σ:St}{H:Hp}{Q:VK}(h:lG X.kw B pc (g2 f ga gb) σ H Q) :
  tOp r (lG X.kw B (pR X.kw) ga) (lG X.kw B (pR X.kw) gb) σ H Q:=by
 obtain⟨F,ρ,d,rr,hg,k⟩:=h
 unfold g2 at hg
 cases qa:ga ρ with
 |none=>rw[qa] at hg;cases hg
 |some dx=>
  cases qb:gb ρ with
  |none=>rw[qa,qb] at hg;cases hg
  |some dy=>
   rw[qa,qb] at hg
   refine⟨F,ρ,dx,rr,qa,λx F1 H1 e1 p1=>⟨F1,ρ,dy,rr.ext e1,qb,λy F2 H2 e2 p2=>?_⟩⟩
   exact hr F2 H2 x y dx dy d Q e2.fh (p1.mono e2.ff e2.hh) p2 hg λv F' H' e p=>k v F' H' (e1.trans (e2.trans e)) (hb _ _ _ _ _ _ _ _ (e1.trans e2) p)
theorem xB {op:Operator}{r:R2}{f:D->D->Option D}{ga gb:EnvD->Option D}(ho:OpR X (binaryOp op) r)(hr:OkR X.kw r (pE X.kw) f)(ha:DR X B a ga)(hb:DR X B b gb):DE X B (.BinOp a op b pos) (g2 f ga gb) :=
 zt (W8 ho ha hb) λσ H Q h=>op2 jv hr h
theorem Vo {op:Operator}{r:R2}{f:D->D->Option #[3]}{ga gb:EnvD->Option D}(ho:OpR X (binaryOp op) r)(hr:OkR X.kw r (pA X.kw) f)(ha:DR X B a ga)(hb:DR X B b gb):DA X B (.BinOp a op b pos) (g2 f ga gb) :=
 zt (W8 ho ha hb) λσ H Q h=>op2 VH hr h
theorem yX {op:CmpOp}{r:R2}{f:D->D->Option D}{ga gb:EnvD->Option D}(ho:OpR X (compareOp op) r)(hr:OkR X.kw r (pE X.kw) f)(ha:DR X B a ga)(hb:DR X B b gb)(hm:behindInMarks op b=false):DE X B (.Compare a [op] [b] pos) (g2 f ga gb) :=
 zt (zff ho ha hb hm) λσ H Q h=>op2 jv hr h
theorem zcb {r:R2}{f:D->D->Option D}{ga gb:EnvD->Option D}(ho:IxR X r)(hr:OkR X.kw r (pE X.kw) f)(ha:DR X B a ga)(hb:DR X B b gb)(hs:ug b):DE X B (.Subscript a b pos) (g2 f ga gb) :=
 zt (V0 ho ha hb hs) λσ H Q h=>op2 jv hr h
def fI (C:Int->Int->Bool)(f:Int->Int->D):D->D->Option D
 |.int i,.int j=>if C i j then some (f i j) else none
 |_,_=>none
theorem okI {K:KW}{C:Int->Int->Prop}{p:Int->Int->Bool}{f:Int->Int->D}{g:Int->Int->V}(hp:∀i j,p i j=true->C i j)(hf:∀i j F,Rp K F (f i j) (g i j)):OkR K (rI C g) (pE K) (fI p f):=by
 intro F H x y dx dy d Q s rx ry e k
 unfold fI at e
 split at e
 ·rename_i i j
  split at e
  ·rename_i hc
   cases e
   exact⟨i,j,rx.int,ry.int,hp i j hc,k _ F H (.refl s) (hf i j F)⟩
  ·cases e
 ·cases e
theorem okI0 {K:KW}{f:Int->Int->D}{g:Int->Int->V}(hf:∀i j F,Rp K F (f i j) (g i j)):OkR K (rI0 g) (pE K) (fI (λ_ _=>true) f):=by
 intro F H x y dx dy d Q s rx ry e k
 unfold fI at e
 split at e
 ·rename_i i j
  rw[if_pos rfl] at e
  cases e
  exact⟨i,j,rx.int,ry.int,k _ F H (.refl s) (hf i j F)⟩
 ·cases e
def fSub:=fI (λ_ _=>true) λi j=>.int (i - j)
def LIM:Int:=18446744073709551616
def fMul:=fI (λi j=>(decide (-LIM < i)&&decide (i < LIM))||(decide (-LIM < j)&&decide (j < LIM))) λi j=>.int (i * j)
def fDiv:=fI (λ_ j=>decide (0 < j)&&decide (j < 1073741824)) λi j=>.int (i / j)
def fMod:=fI (λ_ j=>decide (0 < j)) λi j=>.int (i % j)
def fShr:=fI (λ_ j=>decide (0<=j)) λi j=>.int (i / 2 ^ j.toNat)
def fAnd:=fI (λ_ _=>true) λi j=>.int (Builtin.bitAnd i j)
def fPow:=fI (λi j=>decide (0<=j)&&decide (j<=1000000)&&decide (i.natAbs < 18446744073709551616)) λi j=>.int (i ^ j.toNat)
variable {ga gb:EnvD->Option D}
theorem zR (ha:DR X B a ga)(hb:DR X B b gb):DE X B (.BinOp a .Sub b pos) (g2 fSub ga gb):=xB U8 (okI0 λ_ _ _=>rfl) ha hb
theorem wJ (ha:DR X B a ga)(hb:DR X B b gb):DE X B (.BinOp a .Mult b pos) (g2 fMul ga gb):=xB zf8 (okI (λi j h=>by
 simp only[Bool.or_eq_true,Bool.and_eq_true,decide_eq_true_eq] at h
 unfold LIM at h
 rcases h with⟨h1,h2⟩ | ⟨h1,h2⟩
 ·exact .inl ⟨by omega,by omega⟩
 ·exact .inr ⟨by omega,by omega⟩) λ_ _ _=>rfl) ha hb
theorem vV (ha:DR X B a ga)(hb:DR X B b gb):DE X B (.BinOp a .FloorDiv b pos) (g2 fDiv ga gb):=xB Ro (okI (λi j h=>by
 simp only[Bool.and_eq_true,decide_eq_true_eq] at h
 exact h) λ_ _ _=>rfl) ha hb
theorem ya (ha:DR X B a ga)(hb:DR X B b gb):DE X B (.BinOp a .Mod b pos) (g2 fMod ga gb):=xB zbx (okI (λi j h=>by
 simp only[decide_eq_true_eq] at h
 exact h) λ_ _ _=>rfl) ha hb
theorem UH (ha:DR X B a ga)(hb:DR X B b gb):DE X B (.BinOp a .RShift b pos) (g2 fShr ga gb):=xB GV (okI (λi j h=>by
 simp only[decide_eq_true_eq] at h
 exact h) λ_ _ _=>rfl) ha hb
theorem zc3 (ha:DR X B a ga)(hb:DR X B b gb):DE X B (.BinOp a .BitAnd b pos) (g2 fAnd ga gb):=xB zdb (okI0 λ_ _ _=>rfl) ha hb
theorem wr (ha:DR X B a ga)(hb:DR X B b gb):DE X B (.BinOp a .Pow b pos) (g2 fPow ga gb):=xB zf0 (okI (λi j h=>by
 simp only[Bool.and_eq_true,decide_eq_true_eq] at h
 exact⟨h.1.1,h.1.2,by have:=h.2;omega⟩) λ_ _ _=>rfl) ha hb
def fLt:=fI (λ_ _=>true) λi j=>.bl (decide (i < j))
def fLe:=fI (λ_ _=>true) λi j=>.bl (decide (i<=j))
def fGt:=fI (λ_ _=>true) λi j=>.bl (decide (j < i))
def fGe:=fI (λ_ _=>true) λi j=>.bl (decide (j<=i))
theorem yJ {K:KW}:OkR K (rI0 λi j=>.bl (decide (i < j))) (pE K) fLt:=okI0 λ_ _ _=>rfl
theorem xP {K:KW}:OkR K (rI0 λi j=>.bl (decide (i<=j))) (pE K) fLe:=okI0 λ_ _ _=>rfl
theorem vf {K:KW}:OkR K (rI0 λi j=>.bl (decide (j < i))) (pE K) fGt:=okI0 λ_ _ _=>rfl
theorem uS {K:KW}:OkR K (rI0 λi j=>.bl (decide (j<=i))) (pE K) fGe:=okI0 λ_ _ _=>rfl
def TOP:Nat:=1000000
theorem yk {n:Nat}(h:n<=TOP):n<=sizeLine:=Nat.le_trans h #[7]
theorem za7 {n:Nat}(h:n<=TOP):n < sizeLine:=Nat.lt_of_le_of_lt h #[7]
def fIx:D->D->Option D
 |.lst xs,.int i=>atI xs i
 |.tup xs,.int i=>atI xs i
 |.scr ns,.int i=>(atI ns i).map D.int
 |_,_=>none
theorem Ww {K:KW}{F:Hp}{ds:List D}{vs:List V}{i:Int}{d:D}(r:Rps K F ds vs)(h:atI ds i=some d):∃v,atI vs i=some v/\Rp K F d v:=by
 unfold atI at h ⊢
 rw[<-r.length]
 cases q:ixN ds.length i with
 |none=>rw[q] at h;cases h
 |some j=>rw[q] at h;exact r.get h
theorem uQ {K:KW}:OkR K (rIx K) (pE K) fIx:=by
 intro F H x y dx dy d Q s rx ry e k
 unfold fIx at e
 split at e
 ·rename_i xs i
  obtain⟨p,vs,rfl,h1,h2⟩:=rx.lst s
  obtain⟨v,h3,h4⟩:=Ww h2 e
  exact .inl ⟨p,vs,i,v,rfl,ry.int,.of h1,h3,k _ F H (.refl s) h4⟩
 ·rename_i xs i
  obtain⟨p,vs,rfl,h1,h2⟩:=rx.tup s
  obtain⟨v,h3,h4⟩:=Ww h2 e
  exact .inr (.inl ⟨p,vs,i,v,rfl,ry.int,.of h1,h3,k _ F H (.refl s) h4⟩)
 ·rename_i ns i
  obtain⟨p,rfl,h1⟩:=rx.scr s
  cases q:atI ns i with
  |none=>rw[q] at e;cases e
  |some n=>
   rw[q] at e
   cases e
   refine .inl ⟨p,_,i,.int n,rfl,ry.int,h1,?_,k _ F H (.refl s) rfl⟩
   unfold atI at q ⊢
   rw[List.length_map]
   cases q':ixN ns.length i with
   |none=>rw[q'] at q;cases q
   |some j=>
    rw[q'] at q
    have q:ns[j]?=some n:=q
    show (ns.map V.int)[j]?=some (.int n)
    rw[List.getElem?_map,q];rfl
 ·cases e
end
mutual
def toP:D->PyData
 |.non=>.none
 |.bl b=>.bool b
 |.int i=>.int i
 |.str x=>.str x
 |.lst ds=>.list (toPs ds)
 |.tup ds=>.tuple (toPs ds)
 |.scr ns=>.list (ns.map PyData.int)
 |.obj _ _ _=>.dict []
 |.emp=>.dict []
def toPs:List D->List PyData
 | []=>[]
 |d::ds=>toP d::toPs ds
end
section
variable {X:Cx}{pins:List (Addr×Obj)}{σ:St}{F H:Hp}{s:Shared}
theorem WE {h:Heap}:∀(ns:List Int) {us:List Value},Vals (ns.map V.int) us->∃as,ReadsAll h us (ns.map PyData.int) as
 | [],_,.nil=>⟨_,.nil⟩
 |n::ns,_,.cons r t=>by
  obtain⟨t',rfl⟩:=r
  obtain⟨as,q⟩:=WE ns t
  exact⟨_,.cons (.int n t') q⟩
mutual
theorem Rp.reads (I:Inv X pins σ H s)(fh:Same F H):∀(d:D) {v:V} {u:Value},(toP d).canLay0=true->Rp X.kw F d v->RelV v u->∃as,Reads s.heap u (toP d) as
 |.non,_,_,_,h,r=>by subst h;cases r;exact⟨_,.none⟩
 |.bl b,_,_,_,h,r=>by subst h;cases r;exact⟨_,.bool b⟩
 |.int i,_,_,_,h,r=>by subst h;obtain⟨t,rfl⟩:=r;exact⟨_,.int i t⟩
 |.str x,_,_,_,h,r=>by subst h;obtain⟨t,rfl⟩:=r;exact⟨_,.str x t⟩
 |.lst ds,_,_,c,⟨a,vs,e,q,h⟩,r=>by
  subst e;cases r
  obtain⟨z,its,n,rv,e⟩:=(show ObjOk X.prog X.w H s.heap a (.lst vs) from I.hok a _ (fh _ _ q))
  obtain⟨as,t⟩:=Rps.reads I fh ds (show PyData.canLayAll0 (toPs ds)=true from c) h rv
  exact⟨_,.list e rfl rfl (by simpa using t)⟩
 |.tup ds,_,_,c,⟨a,vs,e,q,h⟩,r=>by
  subst e;cases r
  obtain⟨z,its,rv,o,e,hc,n,hd⟩:=(show ObjOk X.prog X.w H s.heap a (.tup vs) from I.hok a _ (fh _ _ q))
  obtain⟨as,t⟩:=Rps.reads I fh ds (show PyData.canLayAll0 (toPs ds)=true from c) h rv
  exact⟨_,.tuple e hc hd (by simpa using t)⟩
 |.scr ns,_,_,c,⟨a,e,q⟩,r=>by
  subst e;cases r
  obtain⟨its,rv,⟨o,n,e,hc,_,hd⟩,_⟩:=I.list (fh.seq q)
  obtain⟨as,t⟩:=WE (h:=s.heap) ns rv
  exact⟨_,.list e hc hd (by simpa using t)⟩
 |.obj _ _ _,_,_,c,_,_=>by cases c
 |.emp,_,_,c,_,_=>by cases c
theorem Rps.reads (I:Inv X pins σ H s)(fh:Same F H):∀(ds:List D) {vs:List V} {us:List Value},PyData.canLayAll0 (toPs ds)=true->Rps X.kw F ds vs->Vals vs us->∃as,ReadsAll s.heap us (toPs ds) as
 | [],_,_,_,h,r=>by subst h;cases r;exact⟨_,.nil⟩
 |d::ds,_,_,c,⟨v,w,e,h,t⟩,r=>by
  subst e
  cases r with
  |cons r rr=>
   have c':((toP d).canLay0&&PyData.canLayAll0 (toPs ds))=true:=c
   obtain⟨c1,c2⟩:=Bool.and_eq_true_iff.mp c'
   obtain⟨as,q⟩:=Rp.reads I fh d c1 h r
   obtain⟨bs,p⟩:=Rps.reads I fh ds c2 t rr
   exact⟨_,.cons q p⟩
end
theorem Rq.reads (I:Inv X pins σ H s)(fh:Same F H){d:D}{v:V}{u:Value}(c:(toP d).canLay0=true)(h:Rq X.kw F H d v)(r:RelV v u):∃as,Reads s.heap u (toP d) as:=by
 rcases h with h | ⟨a,vs,ds,rfl,rfl,e,h⟩
 ·exact h.reads I fh d c r
 ·cases r
  obtain⟨z,its,n,rv,e⟩:=(show ObjOk X.prog X.w H s.heap a (.lst vs) from I.hok a _ e)
  obtain⟨as,t⟩:=Rps.reads I fh ds (show PyData.canLayAll0 (toPs ds)=true from c) h rv
  exact⟨_,.list e rfl rfl (by simpa using t)⟩
end
def eqOk (d:D):Bool:=SeqAt.shaped (toP d)
def eqD (d d':D):Bool:=PyData.eqv (toP d) (toP d')
def rEqD (K:KW)(neg:Bool):R2:=λx y H Q=>∃F d d',Same F H/\Rq K F H d x/\Rq K F H d' y/\eqOk d=true/\eqOk d'=true/\Q (.bl (if neg then !eqD d d' else eqD d d')) H
section
variable {X:Cx}{B:Bs}{e a b c:Expr}{es:List Expr}{pos:Pos}{ga gb:EnvD->Option D}
theorem yb (hu:X.A.units+64 < cLine):OpR X (compareOp .Eq) (rEqD X.kw false):=by
 intro pins s σ H x y v u Q I rx ry ⟨F,d,d',fh,h1,h2,o1,o2,q⟩
 obtain⟨as,ra⟩:=h1.reads I fh (SeqAt.canLay_of_shaped o1) rx
 obtain⟨bs,rb⟩:=h2.reads I fh (SeqAt.canLay_of_shaped o2) ry
 exact SeqAt.compareEq_shaped ra rb o1 o2 hu ⟨.bl (eqD d d'),H,I,rfl,q⟩
theorem wu (hu:X.A.units+64 < cLine):OpR X (compareOp .NotEq) (rEqD X.kw true):=by
 intro pins s σ H x y v u Q I rx ry ⟨F,d,d',fh,h1,h2,o1,o2,q⟩
 obtain⟨as,ra⟩:=h1.reads I fh (SeqAt.canLay_of_shaped o1) rx
 obtain⟨bs,rb⟩:=h2.reads I fh (SeqAt.canLay_of_shaped o2) ry
 exact SeqAt.compareNe_shaped ra rb o1 o2 hu ⟨.bl (!eqD d d'),H,I,rfl,q⟩
def fEq (neg:Bool):D->D->Option D:=λx y=>if eqOk x&&eqOk y then some (.bl (if neg then !eqD x y else eqD x y)) else none
theorem zL {K:KW}{neg:Bool}:OkR K (rEqD K neg) (pE K) (fEq neg):=by
 intro F H x y dx dy d Q s rx ry e k
 unfold fEq at e
 split at e
 ·rename_i hc
  cases e
  obtain⟨h1,h2⟩:=Bool.and_eq_true_iff.mp hc
  exact⟨F,dx,dy,s,rx,ry,h1,h2,k _ F H (.refl s) rfl⟩
 ·cases e
def isNon:D->Bool
 |.non=>true
 |_=>false
theorem Vd {K:KW}{F H:Hp}{d:D}{v:V}(r:Rq K F H d v):decide (v=.non)=isNon d:=by
 rcases r with r | ⟨a,vs,ds,rfl,rfl,_⟩
 ·cases d with
  |non=>cases r;rfl
  |bl b=>cases r;rfl
  |int b=>cases r;rfl
  |str b=>cases r;rfl
  |lst ds=>obtain⟨a,vs,rfl,_⟩:=r;rfl
  |tup ds=>obtain⟨a,vs,rfl,_⟩:=r;rfl
  |scr ds=>obtain⟨a,rfl,_⟩:=r;rfl
  |obj C f ds=>obtain⟨a,dx,vs,rfl,_⟩:=r;rfl
  |emp=>obtain⟨a,rfl,_⟩:=r;rfl
 ·rfl
def fIs (neg:Bool):D->D->Option D
 |d,.non=>some (.bl (if neg then !isNon d else isNon d))
 |_,_=>none
theorem WF {K:KW}:OkR K (λx y H Q=>y=.non/\Q (.bl (decide (x=.non))) H) (pE K) (fIs false):=by
 intro F H x y dx dy d Q s rx ry e k
 unfold fIs at e
 split at e
 ·cases e
  refine⟨ry.non,?_⟩
  rw[Vd rx]
  exact k _ F H (.refl s) rfl
 ·cases e
theorem Vw {K:KW}:OkR K (λx y H Q=>y=.non/\Q (.bl (!decide (x=.non))) H) (pE K) (fIs true):=by
 intro F H x y dx dy d Q s rx ry e k
 unfold fIs at e
 split at e
 ·cases e
  refine⟨ry.non,?_⟩
  rw[Vd rx]
  exact k _ F H (.refl s) rfl
 ·cases e
def asB:D->Option Bool
 |.bl b=>some b
 |_=>none
def truD:D->Option Bool
 |.non=>some false
 |.bl b=>some b
 |.int i=>some (i != 0)
 |.str x=>if x.length<=TOP then some ((x.length:Int) != 0) else none
 |.lst ds=>some (!ds.isEmpty)
 |.tup ds=>some (!ds.isEmpty)
 |.scr ns=>some (!ns.isEmpty)
 |.obj _ _ _=>none
 |.emp=>none
theorem JH {K:KW}{F:Hp}{ds:List D}{vs:List V}(r:Rps K F ds vs):ds.isEmpty=vs.isEmpty:=by
 have:=r.length
 cases ds<;>cases vs<;>simp_all
theorem zfb {K:KW}{F H:Hp}(s:Same F H){d:D}{v:V}{b:Bool}(r:Rq K F H d v)(h:truD d=some b):TruV K v H b:=by
 cases d with
 |non=>cases r.non;cases h;rfl
 |bl x=>cases r.bl;cases h;rfl
 |int x=>cases r.int;cases h;rfl
 |str x=>
  cases r.str
  have h:(if x.length<=TOP then some ((x.length:Int) != 0) else none)=some b:=h
  split at h
  ·rename_i hc;cases h;exact⟨yk hc,rfl⟩
  ·cases h
 |lst ds=>obtain⟨a,vs,rfl,q,t⟩:=r.lst s;cases h;exact .inl ⟨vs,.of q,by rw[JH t]⟩
 |tup ds=>obtain⟨a,vs,rfl,q,t⟩:=r.tup s;cases h;exact .inr (.inl ⟨vs,.of q,by rw[JH t]⟩)
 |scr ns=>obtain⟨a,rfl,q⟩:=r.scr s;cases h;exact .inl ⟨_,q,by simp⟩
 |obj C f ds=>cases h
 |emp=>cases h
def gt (g:EnvD->Option D):EnvD->Option Bool:=λρ=>(g ρ).bind truD
def gb' (g:EnvD->Option D):EnvD->Option Bool:=λρ=>(g ρ).bind asB
theorem zS {g:EnvD->Option D}(ha:DR X B a g)(he:∀whole,isTrue a X.env whole=(do let v <-whole;standAt a.pos;holding [v] (truthy v))):DT X B a (gt g) :=
 ut (UR ha he) λσ H Q ⟨F,ρ,b,r,hg,k⟩=>by
  unfold gt at hg
  cases q:g ρ with
  |none=>rw[q] at hg;cases hg
  |some d=>
   rw[q] at hg
   exact⟨F,ρ,d,r,q,λv F' H' e p=>⟨b,zfb e.fh p hg,k F' H' e⟩⟩
theorem z8 {op:CmpOp}{r:R2}{f:D->D->Option D}(ho:OpR X (compareOp op) r)(hr:OkR X.kw r (pE X.kw) f)(ha:DR X B a ga)(hb:DR X B b gb)(hm:behindInMarks op b=false):DT X B (.Compare a [op] [b] pos) (gb' (g2 f ga gb)) :=
 ut (zei ho ha hb hm) λσ H Q ⟨F,ρ,c,rr,hg,k⟩=>by
  unfold gb' at hg
  cases q:g2 f ga gb ρ with
  |none=>rw[q] at hg;cases hg
  |some d=>
   rw[q] at hg
   refine op2 jv hr ⟨F,ρ,d,rr,q,λv F' H' e p=>?_⟩
   cases d with
   |bl y=>cases hg;exact⟨c,p,k F' H' e⟩
   |_=>cases hg
def gAnd (ga gb:EnvD->Option Bool):EnvD->Option Bool:=λρ=>(ga ρ).bind λx=>if x then gb ρ else some false
def gOr (ga gb:EnvD->Option Bool):EnvD->Option Bool:=λρ=>(ga ρ).bind λx=>if x then some true else gb ρ
def gNot (ga:EnvD->Option Bool):EnvD->Option Bool:=λρ=>(ga ρ).map λx=>!x
variable {ta tb:EnvD->Option Bool}{rest:List Expr}
theorem wp (ha:DT X B a ta):DW X B (.BoolOp .And [a] pos) ta:=zeb ha
theorem vJ (ha:DT X B a ta):DW X B (.BoolOp .Or [a] pos) ta:=Rl ha
theorem xu (ha:DT X B a ta)(hb:DW X B (.BoolOp .And (b::rest) pos) tb):DW X B (.BoolOp .And (a::b::rest) pos) (gAnd ta tb) :=
 Kf (UQ ha hb) λσ H Q ⟨F,ρ,c,r,hg,k⟩=>by
  unfold gAnd at hg
  cases q:ta ρ with
  |none=>rw[q] at hg;cases hg
  |some x=>
   rw[q] at hg
   refine⟨F,ρ,x,r,q,λF1 H1 e1=>?_⟩
   cases x with
   |true=>exact iteT ⟨F1,ρ,c,r.ext e1,hg,λF2 H2 e2=>k F2 H2 (e1.trans e2)⟩
   |false=>cases hg;exact iteF (k F1 H1 e1)
theorem wv (ha:DT X B a ta)(hb:DW X B (.BoolOp .Or (b::rest) pos) tb):DW X B (.BoolOp .Or (a::b::rest) pos) (gOr ta tb) :=
 Kf (Gn ha hb) λσ H Q ⟨F,ρ,c,r,hg,k⟩=>by
  unfold gOr at hg
  cases q:ta ρ with
  |none=>rw[q] at hg;cases hg
  |some x=>
   rw[q] at hg
   refine⟨F,ρ,x,r,q,λF1 H1 e1=>?_⟩
   cases x with
   |true=>cases hg;exact iteT (k F1 H1 e1)
   |false=>exact iteF ⟨F1,ρ,c,r.ext e1,hg,λF2 H2 e2=>k F2 H2 (e1.trans e2)⟩
theorem yt (h:DW X B a ta):DT X B a ta:=PW.pt h
theorem yf (ha:DT X B a ta):DT X B (.UnaryOp .Not a pos) (gNot ta) :=
 ut (zdq ha) λσ H Q ⟨F,ρ,c,r,hg,k⟩=>by
  unfold gNot at hg
  cases q:ta ρ with
  |none=>rw[q] at hg;cases hg
  |some x=>rw[q] at hg;cases hg;exact⟨F,ρ,x,r,q,λF1 H1 e1=>k F1 H1 e1⟩
def gAndV (ga gb:EnvD->Option D):EnvD->Option D:=λρ=>((ga ρ).bind asB).bind λx=>if x then gb ρ else some (.bl false)
def gNotV (ga:EnvD->Option D):EnvD->Option D:=λρ=>((ga ρ).bind asB).map λx=>.bl (!x)
theorem QA {d:D}{b:Bool}(h:asB d=some b):d=.bl b:=by cases d<;>cases h;rfl
theorem bindB {g:EnvD->Option D}{ρ:EnvD}{α:Type}{f:Bool->Option α}{y:α}(h:((g ρ).bind asB).bind f=some y):∃b,g ρ=some (.bl b)/\f b=some y:=by
 cases q:g ρ with
 |none=>rw[q] at h;cases h
 |some d=>
  rw[q] at h
  cases q2:asB d with
  |none=>rw[show (some d).bind asB=asB d from rfl,q2] at h;cases h
  |some b=>rw[show (some d).bind asB=asB d from rfl,q2] at h;exact⟨b,by rw[QA q2],h⟩
theorem wQ {op}(h:DE X B a ga):DE X B (.BoolOp op [a] pos) ga:=QC h
theorem wx (ha:DE X B a ga)(hb:DE X B (.BoolOp .And (b::rest) pos) gb):DE X B (.BoolOp .And (a::b::rest) pos) (gAndV ga gb) :=
 zt (Ky ha hb) λσ H Q ⟨F,ρ,d,r,hg,k⟩=>by
  obtain⟨x,q,hg⟩:=bindB hg
  refine⟨F,ρ,_,r,q,λv F1 H1 e1 p1=>⟨x,p1,?_⟩⟩
  cases x with
  |true=>exact iteT ⟨F1,ρ,d,r.ext e1,hg,λv F2 H2 e2 p2=>k v F2 H2 (e1.trans e2) p2⟩
  |false=>cases hg;exact iteF (k _ F1 H1 e1 rfl)
theorem Qp (ha:DE X B a ga):DE X B (.UnaryOp .Not a pos) (gNotV ga) :=
 zt (GD ha) λσ H Q ⟨F,ρ,d,r,hg,k⟩=>by
  unfold gNotV at hg
  rw[Option.map_eq_bind] at hg
  obtain⟨x,q,hg⟩:=bindB hg
  cases hg
  exact⟨F,ρ,_,r,q,λv F1 H1 e1 p1=>⟨x,p1,k _ F1 H1 e1 rfl⟩⟩
def gIf (t:EnvD->Option Bool)(ga gb:EnvD->Option D):EnvD->Option D:=λρ=>(t ρ).bind λx=>if x then ga ρ else gb ρ
theorem Qf (ht:DT X B c ta)(ha:DE X B a ga)(hb:DE X B b gb):DE X B (.IfExp c a b pos) (gIf ta ga gb) :=
 zt (J7 ht ha hb) λσ H Q ⟨F,ρ,d,r,hg,k⟩=>by
  unfold gIf at hg
  cases q:ta ρ with
  |none=>rw[q] at hg;cases hg
  |some x=>
   rw[q] at hg
   refine⟨F,ρ,x,r,q,λF1 H1 e1=>?_⟩
   cases x with
   |true=>exact iteT ⟨F1,ρ,d,r.ext e1,hg,λv F2 H2 e2 p2=>k v F2 H2 (e1.trans e2) p2⟩
   |false=>exact iteF ⟨F1,ρ,d,r.ext e1,hg,λv F2 H2 e2 p2=>k v F2 H2 (e1.trans e2) p2⟩
end
section
variable {X:Cx}{B:Bs}{e a b c:Expr}{es:List Expr}{pos:Pos}{ga gb gc':EnvD->Option D}
def g3 (f f':D->D->Option D)(ga gb gc:EnvD->Option D):EnvD->Option D:=λρ=>
 (ga ρ).bind λx=>(gb ρ).bind λy=>((f x y).bind asB).bind λk=>if k then (gc ρ).bind λz=>f' y z else some (.bl false)
theorem zcv {r r':R2}{f f':D->D->Option D}(hr:OkR X.kw r (pE X.kw) f)(hr':OkR X.kw r' (pE X.kw) f'){σ:St}{H:Hp}{Q:VK}(h:lG X.kw B (pE X.kw) (g3 f f' ga gb gc') σ H Q) :
  tChain r r' (lG X.kw B (pR X.kw) ga) (lG X.kw B (pR X.kw) gb) (lG X.kw B (pR X.kw) gc') σ H Q:=by
 obtain⟨F,ρ,d,rr,hg,k⟩:=h
 unfold g3 at hg
 cases qa:ga ρ with
 |none=>rw[qa] at hg;cases hg
 |some dx=>
  cases qb:gb ρ with
  |none=>rw[qa,qb] at hg;cases hg
  |some dy=>
   rw[qa,qb] at hg
   have hg:((f dx dy).bind asB).bind (λk=>if k then (gc' ρ).bind λz=>f' dy z else some (.bl false))=some d:=hg
   cases qf:f dx dy with
   |none=>rw[qf] at hg;cases hg
   |some z=>
    rw[qf] at hg
    cases qz:asB z with
    |none=>rw[show (some z).bind asB=asB z from rfl,qz] at hg;cases hg
    |some kk=>
     rw[show (some z).bind asB=asB z from rfl,qz] at hg
     rw[QA qz] at qf
     refine⟨F,ρ,dx,rr,qa,λx F1 H1 e1 p1=>⟨F1,ρ,dy,rr.ext e1,qb,λy F2 H2 e2 p2=>?_⟩⟩
     refine hr F2 H2 x y dx dy _ _ e2.fh (p1.mono e2.ff e2.hh) p2 qf λv F3 H3 e3 p3=>⟨kk,p3,?_⟩
     have hg:(if kk=true then (gc' ρ).bind λz=>f' dy z else some (.bl false))=some d:=hg
     cases kk with
     |false=>rw[if_neg #[7]] at hg;cases hg;exact iteF (k _ F3 H3 (e1.trans (e2.trans e3)) rfl)
     |true=>
      rw[if_pos rfl] at hg
      refine iteT ?_
      cases qc:gc' ρ with
      |none=>rw[qc] at hg;cases hg
      |some dz=>
       rw[qc] at hg
       refine⟨F3,ρ,dz,rr.ext (e1.trans (e2.trans e3)),qc,λw F4 H4 e4 p4=>?_⟩
       exact hr' F4 H4 y w dy dz d Q e4.fh ((p2.mono e3.ff e3.hh).mono e4.ff e4.hh) p4 hg λv F5 H5 e5 p5=>k v F5 H5 (e1.trans (e2.trans (e3.trans (e4.trans e5)))) p5
theorem Yw {op op':CmpOp}{r r':R2}{f f':D->D->Option D}(ho:OpR X (compareOp op) r)(ho':OpR X (compareOp op') r')(hr:OkR X.kw r (pE X.kw) f)(hr':OkR X.kw r' (pE X.kw) f')(ha:DR X B a ga)(hb:DR X B b gb)(hc:DR X B c gc')
  (hm:lastMarks [op,op'] [b,c]=false:=by with_unfolding_all rfl):DE X B (.Compare a [op,op'] [b,c] pos) (g3 f f' ga gb gc') :=
 zt (R8 ho ho' ha hb hc hm) λσ H Q h=>zcv hr hr' h
def gNil:EnvD->Option #[3]:=λ_=>some []
def gCons' (g:EnvD->Option D)(gs:EnvD->Option #[3]):EnvD->Option #[3]:=λρ=>(g ρ).bind λd=>(gs ρ).bind λds=>some (d::ds)
variable {g:EnvD->Option D}{gs:EnvD->Option #[3]}
theorem zw:DAs X B [] gNil:=yK yr λσ H Q ⟨F,ρ,ds,r,hg,k⟩=>by cases hg;exact k [] F H (.refl r.fh) .nil
theorem zC:DRs X B [] gNil:=yK yr λσ H Q ⟨F,ρ,ds,r,hg,k⟩=>by cases hg;exact k [] F H (.refl r.fh) .nil
theorem bind2 {α β γ:Type}{o:Option α}{p:Option β}{f:α->β->Option γ}{z:γ}(h:(o.bind λx=>p.bind λy=>f x y)=some z):∃x y,o=some x/\p=some y/\f x y=some z:=by
 cases o with
 |none=>cases h
 |some x=>
  cases p with
  |none=>cases h
  |some y=>exact⟨x,y,rfl,rfl,h⟩
theorem zi (ha:DE X B e g)(hr:DAs X B es gs)(hs:starEach (e::es) X.env=(false,eval e X.env)::starEach es X.env:=by rfl):DAs X B (e::es) (gCons' g gs) :=
 yK (zW ha hr hs) λσ H Q ⟨F,ρ,ds,r,hg,k⟩=>by
  obtain⟨d,dr,q1,q2,q3⟩:=bind2 hg
  cases q3
  exact⟨F,ρ,d,r,q1,λv F1 H1 e1 p1=>⟨F1,ρ,dr,r.ext e1,q2,λvs F2 H2 e2 p2=>k _ F2 H2 (e1.trans e2) (.cons (Rp.mono e2.ff p1) p2)⟩⟩
theorem z6 (ha:DR X B e g)(hr:DRs X B es gs)(hs:starEach (e::es) X.env=(false,eval e X.env)::starEach es X.env:=by rfl):DRs X B (e::es) (gCons' g gs) :=
 yK (zW ha hr hs) λσ H Q ⟨F,ρ,ds,r,hg,k⟩=>by
  obtain⟨d,dr,q1,q2,q3⟩:=bind2 hg
  cases q3
  exact⟨F,ρ,d,r,q1,λv F1 H1 e1 p1=>⟨F1,ρ,dr,r.ext e1,q2,λvs F2 H2 e2 p2=>k _ F2 H2 (e1.trans e2) (.cons (p1.mono e2.ff e2.hh) p2)⟩⟩
theorem jY {K:KW}{F:Hp}:∀ {ds:List D} {vs:List V},Paired (λd v=>Rp K F d v) ds vs->Rps K F ds vs
 |_,_,.nil=>rfl
 |_,_,.cons r t=>⟨_,_,rfl,r,jY t⟩
def gTup' (gs:EnvD->Option #[3]):EnvD->Option D:=λρ=>(gs ρ).bind λds=>if ds.length<=TOP then some (.tup ds) else none
def gLst (gs:EnvD->Option #[3]):EnvD->Option #[3]:=λρ=>(gs ρ).bind λds=>if ds.length<=TOP then some ds else none
theorem zK {x1}(h:DAs X B es gs):DE X B (.Tuple es x1 pos) (gTup' gs) :=
 zt (QH h) λσ H Q ⟨F,ρ,d,r,hg,k⟩=>by
  unfold gTup' at hg
  cases q:gs ρ with
  |none=>rw[q] at hg;cases hg
  |some ds=>
   rw[q] at hg
   have hg:(if ds.length<=TOP then some (D.tup ds) else none)=some d:=hg
   split at hg
   ·rename_i hc
    cases hg
    refine⟨F,ρ,ds,r,q,λvs F1 H1 e1 p1=>⟨yk (by rw[<-(jY p1).length];exact hc),λp hp=>?_⟩⟩
    exact k _ (upd F1 p (.tup vs)) _ (e1.trans (.newF e1.fh hp)) ⟨p,vs,rfl,zy,(jY p1).mono (ye (e1.fh.free hp))⟩
   ·cases hg
theorem zF (h:DAs X B es gs):DA X B (.List es pos) (gLst gs) :=
 zt (Wv h) λσ H Q ⟨F,ρ,d,r,hg,k⟩=>by
  unfold gLst at hg
  cases q:gs ρ with
  |none=>rw[q] at hg;cases hg
  |some ds=>
   rw[q] at hg
   have hg:(if ds.length<=TOP then some ds else none)=some d:=hg
   split at hg
   ·rename_i hc
    cases hg
    refine⟨F,ρ,_,r,q,λvs F1 H1 e1 p1=>⟨yk (by rw[<-(jY p1).length];exact hc),λp hp=>?_⟩⟩
    exact k _ F1 _ (e1.trans (.new e1.fh hp)) ⟨p,vs,rfl,e1.hh.free hp,zy,e1.fh.free hp,jY p1⟩
   ·cases hg
def lO (K:KW)(B:Bs)(g:EnvD->Option (Option Int)):TO:=λσ H Q=>∃F ρ i,Rep K B F σ H ρ/\g ρ=some i/\∀F' H',Ext F H F' H'->Q i H'
def DO (X:Cx)(B:Bs)(e:Option Expr)(g:EnvD->Option (Option Int)):Prop:=PO X e (lO X.kw B g)
theorem Kh {e:Option Expr}{t t':TO}(h:PO X e t)(k:∀σ H Q,t' σ H Q->t σ H Q):PO X e t':=λpins s σ H Q I q=>h pins s σ H Q I (k σ H Q q)
def gNone:EnvD->Option (Option Int):=λ_=>some none
theorem x0:DO X B none gNone:=Kh zds λσ H Q ⟨F,ρ,i,r,hg,k⟩=>by cases hg;exact k F H (.refl r.fh)
def asI:D->Option Int
 |.int i=>some i
 |_=>none
theorem Kt {d:D}{i:Int}(h:asI d=some i):d=.int i:=by cases d<;>cases h;rfl
def gSome (g:EnvD->Option D):EnvD->Option (Option Int):=λρ=>(g ρ).bind λd=>(asI d).map some
theorem xA (h:DR X B e g):DO X B (some e) (gSome g):=Kh (zeu h) λσ H Q ⟨F,ρ,i,r,hg,k⟩=>by
 unfold gSome at hg
 cases q:g ρ with
 |none=>rw[q] at hg;cases hg
 |some d=>
  rw[q] at hg
  cases q2:asI d with
  |none=>rw[show (some d).bind (λd=>(asI d).map some)=(asI d).map some from rfl,q2] at hg;cases hg
  |some j=>
   rw[show (some d).bind (λd=>(asI d).map some)=(asI d).map some from rfl,q2] at hg
   cases hg
   rw[Kt q2] at q
   exact⟨F,ρ,_,r,q,λv F1 H1 e1 p1=>⟨j,p1.int,k F1 H1 e1⟩⟩
def cutD {α:Type}(xs:List α)(lo hi:Option Int):List α:=(xs.drop (HT.sIx xs.length 0 lo)).take (HT.sIx xs.length xs.length hi - HT.sIx xs.length 0 lo)
def gSl (g:EnvD->Option D)(gl gh:EnvD->Option (Option Int)):EnvD->Option #[3]:=λρ=>(g ρ).bind λd=>(gl ρ).bind λl=>(gh ρ).bind λh=>match d with
 |.lst ds=>some (cutD ds l h)
 |_=>none
theorem vP {lo hi:Option Expr}{gl gh:EnvD->Option (Option Int)}{p2:Pos}(he:DR X B e g)(hl:DO X B lo gl)(hh:DO X B hi gh):DA X B (.Subscript e (.Slice lo hi none p2) pos) (gSl g gl gh) :=
 zt (Qq zdk he hl hh) λσ H Q ⟨F,ρ,d,r,hg,k⟩=>by
  unfold gSl at hg
  cases q:g ρ with
  |none=>rw[q] at hg;cases hg
  |some x=>
   cases ql:gl ρ with
   |none=>rw[q,ql] at hg;cases hg
   |some l=>
    cases qh:gh ρ with
    |none=>rw[q,ql,qh] at hg;cases hg
    |some h=>
     rw[q,ql,qh] at hg
     cases x with
     |lst ds=>
      cases hg
      refine⟨F,ρ,_,r,q,λv F1 H1 e1 p1=>⟨F1,ρ,l,r.ext e1,ql,λF2 H2 e2=>⟨F2,ρ,h,r.ext (e1.trans e2),qh,λF3 H3 e3=>?_⟩⟩⟩
      have e:=e1.trans (e2.trans e3)
      obtain⟨a,vs,rfl,h1,h2⟩:=((p1.mono e2.ff e2.hh).mono e3.ff e3.hh).lst e3.fh
      refine⟨a,vs,rfl,.of h1,λp hp=>k _ F3 _ (e.trans (.new e.fh hp)) ⟨p,_,rfl,e.hh.free hp,zy,e.fh.free hp,?_⟩⟩
      unfold cutD cutV
      rw[<-h2.length]
      exact (h2.drop _).take _
     |_=>cases hg
def CallOk {γ:Type}(K:KW)(r:List V->Hp->VK->Prop)(pc:Post γ)(f:List D->Option γ):Prop :=
 ∀F H vs ds d Q,Same F H->Paired (λd v=>Rq K F H d v) ds vs->f ds=some d->(∀v F' H',Ext F H F' H'->pc F H F' H' d v->Q v H')->r vs H Q
def gB {γ:Type}(f:List D->Option γ)(gs:EnvD->Option #[3]):EnvD->Option γ:=λρ=>(gs ρ).bind f
theorem callB {γ:Type}{r:List V->Hp->VK->Prop}{pc:Post γ}{f:List D->Option γ}(hb:Back pc)(hr:CallOk X.kw r pc f){σ:St}{H:Hp}{Q:VK}(h:lG X.kw B pc (gB f gs) σ H Q):tCB r (lAs X.kw B (pR X.kw) gs) σ H Q:=by
 obtain⟨F,ρ,d,rr,hg,k⟩:=h
 unfold gB at hg
 cases q:gs ρ with
 |none=>rw[q] at hg;cases hg
 |some ds=>
  rw[q] at hg
  exact⟨F,ρ,ds,rr,q,λvs F1 H1 e1 p1=>hr F1 H1 vs ds d Q e1.fh p1 hg λv F' H' e p=>k v F' H' (e1.trans e) (hb _ _ _ _ _ _ _ _ e1 p)⟩
variable {x:Str}{p:Pos}{id T:String}
theorem ui {r:List V->Hp->VK->Prop}{f:List D->Option D}(hc:CallR X (.builtin id) r)(hr:CallOk X.kw r (pE X.kw) f)(hg:Gl X x)(hm:X.mg x=none)(hv:bootBuiltins x=some (.builtin id))(ha:DRs X B (e::es) gs)(hn:x ≠ "__name__" := by decide) (hdb:#[20]=false:=by decide)
  (he:starEach (e::es) X.env=(false,eval e X.env)::starEach es X.env:=by rfl) (hpl:#[24].any (·.1)=false:=by rfl):DE X B #[26] (gB f gs) :=
 zt (u4 hc hg hm hv ha hn hdb he hpl) λσ H Q h=>callB jv hr h
theorem U6 {r:List V->Hp->VK->Prop}{f:List D->Option #[3]}(hc:CallR X (.type T) r)(hr:CallOk X.kw r (pA X.kw) f)(hg:Gl X x)(hm:X.mg x=none)(hv:bootBuiltins x=some (.type T))(ha:DRs X B (e::es) gs)(hn:x ≠ "__name__" := by decide) (hdb:#[20]=false:=by decide)
  (he:starEach (e::es) X.env=(false,eval e X.env)::starEach es X.env:=by rfl) (hpl:#[24].any (·.1)=false:=by rfl):DA X B #[26] (gB f gs) :=
 zt (qX hc hg hm hv ha hn hdb he hpl) λσ H Q h=>callB VH hr h
theorem zbc {r:List V->Hp->VK->Prop}{f:List D->Option D}(hc:CallR X (.type T) r)(hr:CallOk X.kw r (pE X.kw) f)(hg:Gl X x)(hm:X.mg x=none)(hv:bootBuiltins x=some (.type T))(ha:DRs X B (e::es) gs)(hn:x ≠ "__name__" := by decide) (hdb:#[20]=false:=by decide)
  (he:starEach (e::es) X.env=(false,eval e X.env)::starEach es X.env:=by rfl) (hpl:#[24].any (·.1)=false:=by rfl):DE X B #[26] (gB f gs) :=
 zt (qX hc hg hm hv ha hn hdb he hpl) λσ H Q h=>callB jv hr h
def fLen:List D->Option D
 | [.lst ds]=>some (.int ds.length)
 | [.tup ds]=>some (.int ds.length)
 | [.scr ns]=>some (.int ns.length)
 | [.str x]=>if x.length<=TOP then some (.int x.length) else none
 |_=>none
theorem pair1 {R:D->V->Prop}{d:D}{vs:List V}(h:Paired R [d] vs):∃v,vs=[v]/\R d v:=by
 cases h with
 |cons r t=>cases t;exact⟨_,rfl,r⟩
theorem pair2 {R:D->V->Prop}{d d':D}{vs:List V}(h:Paired R [d,d'] vs):∃v v',vs=[v,v']/\R d v/\R d' v':=by
 cases h with
 |cons r t=>
  obtain⟨v',rfl,r'⟩:=pair1 t
  exact⟨_,v',rfl,r,r'⟩
theorem zad {K:KW}:CallOk K (λxs H Q=>∃x n,xs=[x]/\LenV K x H n/\Q (.int n) H) (pE K) fLen:=by
 intro F H vs ds d Q s hp e k
 unfold fLen at e
 split at e
 ·cases e
  obtain⟨v,rfl,r⟩:=pair1 hp
  obtain⟨a,ws,rfl,h1,h2⟩:=r.lst s
  exact⟨_,_,rfl,.inl ⟨ws,.of h1,h2.length⟩,k _ F H (.refl s) rfl⟩
 ·cases e
  obtain⟨v,rfl,r⟩:=pair1 hp
  obtain⟨a,ws,rfl,h1,h2⟩:=r.tup s
  exact⟨_,_,rfl,.inr ⟨ws,.of h1,h2.length⟩,k _ F H (.refl s) rfl⟩
 ·cases e
  obtain⟨v,rfl,r⟩:=pair1 hp
  obtain⟨a,rfl,h1⟩:=r.scr s
  exact⟨_,_,rfl,.inl ⟨_,h1,by simp⟩,k _ F H (.refl s) rfl⟩
 ·split at e
  ·rename_i hc
   cases e
   obtain⟨v,rfl,r⟩:=pair1 hp
   cases r.str
   exact⟨_,_,rfl,⟨yk hc,rfl⟩,k _ F H (.refl s) rfl⟩
  ·cases e
 ·cases e
def fMax:List D->Option D
 | [.int i,.int j]=>some (.int (if j > i then j else i))
 |_=>none
def fMin:List D->Option D
 | [.int i,.int j]=>some (.int (if j < i then j else i))
 |_=>none
theorem UI {K:KW}:CallOk K (λxs H Q=>∃i j,xs=[.int i,.int j]/\Q (.int (if j > i then j else i)) H) (pE K) fMax:=by
 intro F H vs ds d Q s hp e k
 unfold fMax at e
 split at e
 ·cases e
  obtain⟨v,v',rfl,r,r'⟩:=pair2 hp
  cases r.int;cases r'.int
  exact⟨_,_,rfl,k _ F H (.refl s) rfl⟩
 ·cases e
theorem zbr {K:KW}:CallOk K (λxs H Q=>∃i j,xs=[.int i,.int j]/\Q (.int (if j < i then j else i)) H) (pE K) fMin:=by
 intro F H vs ds d Q s hp e k
 unfold fMin at e
 split at e
 ·cases e
  obtain⟨v,v',rfl,r,r'⟩:=pair2 hp
  cases r.int;cases r'.int
  exact⟨_,_,rfl,k _ F H (.refl s) rfl⟩
 ·cases e
end
section
variable {X:Cx}{B:Bs}{e a b c:Expr}{es:List Expr}{pos p p2:Pos}{g ga gb:EnvD->Option D}{gs:EnvD->Option #[3]}
def tyD:D->Option String
 |.non=>some "NoneType"
 |.bl _=>some "bool"
 |.int _=>some "int"
 |.str _=>some "str"
 |.lst _=>some "list"
 |.tup _=>some "tuple"
 |.scr _=>none
 |.obj _ _ _=>none
 |.emp=>some "dict"
def subT (t T:String):Option Bool:=if t=T then some true else if t = "bool" /\ T = "int" then some true else if (t∈["NoneType","bool","int","str","list","tuple","dict"])/\(T∈["bool","int","str","list","tuple","dict"]) then some false else none
theorem GO {K:KW}{F H:Hp}(s:Same F H){d:D}{v:V}{t:String}(r:Rq K F H d v)(h:tyD d=some t):TyOf K H v (.type t):=by
 cases d with
 |non=>cases r.non;cases h;exact .non
 |bl x=>cases r.bl;cases h;exact .bl x
 |int x=>cases r.int;cases h;exact .int x
 |str x=>cases r.str;cases h;exact .str x
 |lst ds=>obtain⟨a,vs,rfl,q,_⟩:=r.lst s;cases h;exact .lst q
 |tup ds=>obtain⟨a,vs,rfl,q,_⟩:=r.tup s;cases h;exact .tup q
 |scr ns=>cases h
 |obj C f ds=>cases h
 |emp=>obtain⟨a,rfl,q⟩:=r.one λ_ z=>(nomatch z);cases h;exact .dK (s _ _ q)
def gIs (T:String)(g:EnvD->Option D):EnvD->Option D:=λρ=>(g ρ).bind λd=>(tyD d).bind λt=>(subT t T).map D.bl
theorem RM {T:String}(hk:∀t b,subT t T=some b->kitOne X.kw (.type t) (.type T)=some b) :
  CallR X (.builtin "isinstance") (λxs H Q=>∃x t b,xs=[x,.ty T]/\TyOf X.kw H x (.type t)/\subT t T=some b/\Q (.bl b) H):=by
 intro pins s σ H vs us Q I r h
 obtain⟨x,t,b,rfl,ty,hb,q⟩:=h
 obtain⟨u,w,rfl,ru,rw'⟩:=vals2 r
 cases rw'
 exact UF I ru ty (hk t b hb) λtk=>⟨.bl b,H,I.tok tk,rfl,q⟩
theorem wB {T:String}{x:Str}(hk:∀t b,subT t T=some b->kitOne X.kw (.type t) (.type T)=some b)(hg:Gl X "isinstance") (hm:X.mg "isinstance" = none) (hgT:Gl X x) (hmT:X.mg x=none) (hvT:bootBuiltins x=some (.type T)) (ha:DR X B a g)
  (hnT:x ≠ "__name__" := by decide) (hdT:#[20]=false:=by decide)
  (he:starEach [a,.Name x p2] X.env=(false,eval a X.env)::starEach [.Name x p2] X.env:=by rfl) (he2:starEach [.Name x p2] X.env=(false,eval (.Name x p2) X.env)::starEach [] X.env:=by rfl) (hpl:(backTo pos (starEach [.Name x p2] X.env)).any (·.1)=false:=by rfl) :
  DE X B (.Call (.Name "isinstance" p) [a,.Name x p2] [] pos) (gIs T g) :=
 zt (u4 (RM (T:=T) hk) hg hm #[13] (zW ha (zW (Vm hgT hmT hvT (v:=.ty T) rfl hnT hdT) yr he2) he) #[7] #[7] he hpl) λσ H Q ⟨F,ρ,d,r,hg,k⟩=>by
  unfold gIs at hg
  cases q:g ρ with
  |none=>rw[q] at hg;cases hg
  |some x=>
   rw[q] at hg
   have hg:((tyD x).bind λt=>(subT t T).map D.bl)=some d:=hg
   cases q2:tyD x with
   |none=>rw[q2] at hg;cases hg
   |some t=>
    rw[q2] at hg
    have hg:(subT t T).map D.bl=some d:=hg
    cases q3:subT t T with
    |none=>rw[q3] at hg;cases hg
    |some y=>
     rw[q3] at hg
     cases hg
     exact⟨F,ρ,x,r,q,λv F1 H1 e1 p1=>⟨v,t,y,rfl,GO e1.fh p1 q2,q3,k _ F1 H1 e1 rfl⟩⟩
theorem ze8 (hc:X.calm=true):CallR X (.builtin "all") (λxs H Q=>∃(a:Addr) (bs:List Bool),xs=[.ref a]/\SqL X.kw H a (bs.map V.bl)/\Q (.bl (bs.all λx=>x)) H):=by
 intro pins s σ H vs us Q I r h
 obtain⟨a,bs,rfl,hq,q⟩:=h
 obtain⟨u,rfl,ru⟩:=vals1 r
 cases ru
 obtain⟨its,rv,pl,hz⟩:=I.list hq
 have hlt:a < s.heap.objs.size:=let ⟨o,n,e,_⟩:=pl;Heap.lt_size e
 have hl:bs.length=its.length:=by have:=rv.length;simpa using this
 refine call_all_walk (wpAny_pyIter_list pl.isList ⟨s.heap.objs.size,_,_,_,_,_,λi=>bs.getD i false,rfl,Walks.list (A:=X.A.in1) (I.ok.hd hc) s.heap.objs.size a (Nat.ne_of_lt hlt) its.toArray,⟨⟨_,Heap.get?_push_size _ rfl,rfl,rfl⟩,?_⟩,?_,λh' tk hk=>?_⟩)
 ·obtain⟨o,n,e,c1,c2,c3⟩:=pl
  exact⟨o,Heap.get?_push_of_some _ e,c1,n,c3⟩
 ·intro i v s' Q' E' hv hq'
  have hv:its[i]?=some v:=by simpa using hv
  have hi:i < bs.length:=by rw[hl];exact (List.getElem?_eq_some_iff.mp hv).1
  have hb:(bs.map V.bl)[i]?=some (.bl bs[i]):=by simp[hi]
  obtain⟨u,hu,ru⟩:=rv.get hb
  rw[hv] at hu;cases hu
  cases ru
  have e:bs.getD i false=bs[i]:=by simp[List.getD,hi]
  have hq':Q' (bs.getD i false) s':=hq'
  rw[e] at hq'
  exact wpAny_truthy_bool hq'
 ·have e:((List.range its.toArray.size).all λi=>bs.getD i false)=bs.all λx=>x:=by
   rw[List.size_toArray,<-hl,Bool.eq_iff_iff]
   simp only[List.all_eq_true,List.mem_range]
   constructor
   ·intro h x hx
    obtain⟨i,hi,e⟩:=List.mem_iff_getElem.mp hx
    have:=h i hi
    simpa[List.getD,hi,e] using this
   ·intro h i hi
    have:=h bs[i] (List.getElem_mem hi)
    simpa[List.getD,hi] using this
  rw[e]
  refine⟨.bl (bs.all λx=>x),H,I.kept (t':=tk) λb o e=>hk b o (λz=>?_) (Heap.get?_push_of_some _ e),rfl,q⟩
  have:b=s.heap.objs.size:=by simpa using z
  exact absurd (Heap.lt_size e) (by rw[this];exact Nat.lt_irrefl _)
def asBs:List D->Option (List Bool)
 | []=>some []
 |.bl b::r=>(asBs r).map (b::·)
 |_=>none
theorem J8 {K:KW}{F:Hp}:∀ {ds:List D} {vs:List V} {bs:List Bool},asBs ds=some bs->Rps K F ds vs->vs=bs.map V.bl
 | [],_,_,e,h=>by cases e;cases h;rfl
 |.bl b::r,_,_,e,⟨v,w,e1,h,t⟩=>by
  subst e1;cases h
  cases q:asBs r with
  |none=>rw[show asBs (.bl b::r)=(asBs r).map (b::·) from rfl,q] at e;cases e
  |some bs=>
   rw[show asBs (.bl b::r)=(asBs r).map (b::·) from rfl,q] at e
   cases e
   rw[J8 q t];rfl
 |.non::_,_,_,e,_=>by cases e
 |.int _::_,_,_,e,_=>by cases e
 |.str _::_,_,_,e,_=>by cases e
 |.lst _::_,_,_,e,_=>by cases e
 |.tup _::_,_,_,e,_=>by cases e
 |.scr _::_,_,_,e,_=>by cases e
 |.obj _ _ _::_,_,_,e,_=>by cases e
 |.emp::_,_,_,e,_=>by cases e
def fAll:List D->Option D
 | [.lst ds]=>(asBs ds).map λbs=>.bl (bs.all λx=>x)
 |_=>none
theorem G6 {K:KW}:CallOk K (λxs H Q=>∃(a:Addr) (bs:List Bool),xs=[.ref a]/\SqL K H a (bs.map V.bl)/\Q (.bl (bs.all λx=>x)) H) (pE K) fAll:=by
 intro F H vs ds d Q s hp e k
 unfold fAll at e
 split at e
 ·rename_i ds
  obtain⟨v,rfl,r⟩:=pair1 hp
  obtain⟨a,ws,rfl,h1,h2⟩:=r.lst s
  cases q:asBs ds with
  |none=>rw[q] at e;cases e
  |some bs=>
   rw[q] at e
   cases e
   have:=J8 q h2
   subst this
   exact⟨a,bs,rfl,.of h1,k _ F H (.refl s) rfl⟩
 ·cases e
theorem zaw:CallR X (.type "list") (λxs H Q=>∃a vs,xs=[.ref a]/\(SqL X.kw H a vs∨SqT X.kw H a vs)/\∀p,H p=none->Q (.ref p) (upd H p (.lst vs))):=by
 intro pins s σ H vs us Q I r h
 obtain⟨a,ws,rfl,hq,q⟩:=h
 obtain⟨u,rfl,ru⟩:=vals1 r
 cases ru
 have fin:∀ {T:String} {o:Obj} {its:List Value} {n:Nat},(T = "list" ∨ T = "tuple")->s.heap.get? a=some o->o.cls=.type T->o.data=.seq its.toArray n->Vals ws its->ws.length<=sizeLine->wpAny #[9] X.A (call (.type "list") [.ref a]) (EP X pins σ Q) X.xe s:=by
  intro T o its n hT ho hc hd rv hz
  have hl:=rv.length
  refine call_list_seq a hT ho hc hd (λh' c' hk hn=>?_) (by rw[List.size_toArray,<-hl];exact hz)
  exact⟨.ref s.heap.objs.size,upd H s.heap.objs.size (.lst ws),I.laid (t':=s.toks) hk (Nat.le_refl _) ⟨hz,its,c',rv,hn⟩,rfl,q _ (I.hok.fresh (Nat.le_refl _))⟩
 rcases hq with hq | hq
 ·obtain⟨its,rv,⟨o,n,e,c1,c2,c3⟩,hz⟩:=I.list hq
  exact fin (.inl rfl) e c1 c3 rv hz
 ·obtain⟨its,rv,⟨o,e,c1,n,c3⟩,hz⟩:=I.tuple hq
  exact fin (.inr rfl) e c1 c3 rv hz
def fList:List D->Option #[3]
 | [.lst ds]=>some ds
 | [.tup ds]=>some ds
 | [.scr ns]=>some (ns.map D.int)
 |_=>none
theorem zd6 {K:KW}:CallOk K (λxs H Q=>∃a vs,xs=[.ref a]/\(SqL K H a vs∨SqT K H a vs)/\∀p,H p=none->Q (.ref p) (upd H p (.lst vs))) (pA K) fList:=by
 intro F H vs ds d Q s hp e k
 unfold fList at e
 split at e
 ·cases e
  obtain⟨v,rfl,r⟩:=pair1 hp
  obtain⟨a,ws,rfl,h1,h2⟩:=r.lst s
  exact⟨a,ws,rfl,.inl (.of h1),λp hp=>k _ F _ (.new s hp) ⟨p,ws,rfl,hp,zy,s.free hp,h2⟩⟩
 ·cases e
  obtain⟨v,rfl,r⟩:=pair1 hp
  obtain⟨a,ws,rfl,h1,h2⟩:=r.tup s
  exact⟨a,ws,rfl,.inr (.of h1),λp hp=>k _ F _ (.new s hp) ⟨p,ws,rfl,hp,zy,s.free hp,h2⟩⟩
 ·cases e
  obtain⟨v,rfl,r⟩:=pair1 hp
  obtain⟨a,rfl,h1⟩:=r.scr s
  exact⟨a,_,rfl,.inl h1,λp hp=>k _ F _ (.new s hp) ⟨p,_,rfl,hp,zy,s.free hp,Rps.ints _⟩⟩
 ·cases e
def ArgE (K:KW)(F H:Hp):En->V->Prop
 |.val d,v=>Rp K F d v
 |.bor ds,v=>∃a vs,v=.ref a/\H a=some (.lst vs)/\Rps K F ds vs
 |.dbo kvs,v=>∃a ob vs,v=.ref a/\H a=some (DX K.w a ob vs)/\Rkv K F kvs vs
 |.exn a,v=>v=.ref a
 |_,_=>False
theorem ArgE.ext {K:KW}{F H F' H':Hp}(e:Ext F H F' H'):∀ {x:En} {v:V},ArgE K F H x v->ArgE K F' H' x v
 |.val _,_,h=>Rp.mono e.ff h
 |.bor _,_,⟨a,vs,e1,e2,e3⟩=>⟨a,vs,e1,e.hh _ _ e2,e3.mono e.ff⟩
 |.acc _,_,h=>h
 |.oac _ _ _ _ _,_,h=>h
 |.tre _,_,h=>h
 |.dct _ _,_,h=>h
 |.dbo _,_,⟨a,ob,vs,e1,e2,e3⟩=>⟨a,ob,vs,e1,e.hh _ _ e2,e3.mono e.ff⟩
 |.exn _,_,h=>h
 |.obw _ _ _,_,h=>h
def pN (K:KW):Post En:=λ_ _ F' H' x v=>ArgE K F' H' x v
def DN (X:Cx)(B:Bs)(e:Expr)(g:EnvD->Option En):Prop:=PE X e (lG X.kw B (pN X.kw) g)
def lNs (K:KW)(B:Bs)(g:EnvD->Option (List En)):TA:=λσ H Q=>
 ∃F ρ xs,Rep K B F σ H ρ/\g ρ=some xs/\∀vs F' H',Ext F H F' H'->Paired (λx v=>ArgE K F' H' x v) xs vs->Q vs H'
def DNs (X:Cx)(B:Bs)(es:List Expr)(g:EnvD->Option (List En)):Prop:=PA X es (lNs X.kw B g)
def gVal (g:EnvD->Option D):EnvD->Option En:=λρ=>(g ρ).map En.val
theorem zl (h:DE X B e g):DN X B e (gVal g):=zt h λσ H Q ⟨F,ρ,x,r,hg,k⟩=>by
 unfold gVal at hg
 cases q:g ρ with
 |none=>rw[q] at hg;cases hg
 |some d=>rw[q] at hg;cases hg;exact⟨F,ρ,d,r,q,λv F' H' e p=>k v F' H' e p⟩
def gn (i:Nat):EnvD->Option En:=λρ=>match ρ[i]? with
 |some (some (.val d))=>some (.val d)
 |some (some (.acc ds))=>some (.bor ds)
 |some (some (.bor ds))=>some (.bor ds)
 |some (some (.dct _ kvs))=>some (.dbo kvs)
 |some (some (.dbo kvs))=>some (.dbo kvs)
 |_=>none
theorem ze (i:Nat){x:Str}(h:PE X (.Name x pos) (tVar i):=by exact pv _):DN X B (.Name x pos) (gn i) :=
 zt h λσ H Q ⟨F,ρ,d,r,hg,k⟩=>by
  unfold gn at hg
  split at hg
  ·rename_i d' e
   cases hg
   obtain⟨v,h1,h2⟩:=r.ents i _ e
   exact⟨v,h1,k v F H (.refl r.fh) h2⟩
  ·rename_i ds e
   cases hg
   obtain⟨v,h1,a,vs,e1,e2,e3,e4,e5⟩:=r.ents i _ e
   exact⟨v,h1,k v F H (.refl r.fh) ⟨a,vs,e1,e2,e5⟩⟩
  ·rename_i ds e
   cases hg
   obtain⟨v,h1,a,vs,e1,e2,e5⟩:=r.ents i _ e
   exact⟨v,h1,k v F H (.refl r.fh) ⟨a,vs,e1,r.ex.hh _ _ e2,e5⟩⟩
  ·rename_i oa kvs e
   cases hg
   obtain⟨v,h1,a,ob,vs,e1,e2,e3,e4,e5,e6⟩:=r.ents i _ e
   exact⟨v,h1,k v F H (.refl r.fh) ⟨a,ob,vs,e1,e2,e5⟩⟩
  ·rename_i kvs e
   cases hg
   obtain⟨v,h1,a,ob,vs,e1,e2,e5⟩:=r.ents i _ e
   exact⟨v,h1,k v F H (.refl r.fh) ⟨a,ob,vs,e1,r.ex.hh _ _ e2,e5⟩⟩
  ·cases hg
def nNil:EnvD->Option (List En):=λ_=>some []
def nCons (g:EnvD->Option En)(gs:EnvD->Option (List En)):EnvD->Option (List En):=λρ=>(g ρ).bind λd=>(gs ρ).bind λds=>some (d::ds)
variable {gx:EnvD->Option En}{gxs:EnvD->Option (List En)}
theorem zj:DNs X B [] nNil:=yK yr λσ H Q ⟨F,ρ,ds,r,hg,k⟩=>by cases hg;exact k [] F H (.refl r.fh) .nil
theorem zb (ha:DN X B e gx)(hr:DNs X B es gxs)(hs:starEach (e::es) X.env=(false,eval e X.env)::starEach es X.env:=by rfl):DNs X B (e::es) (nCons gx gxs) :=
 yK (zW ha hr hs) λσ H Q ⟨F,ρ,ds,r,hg,k⟩=>by
  obtain⟨d,dr,q1,q2,q3⟩:=bind2 hg
  cases q3
  exact⟨F,ρ,d,r,q1,λv F1 H1 e1 p1=>⟨F1,ρ,dr,r.ext e1,q2,λvs F2 H2 e2 p2=>k _ F2 H2 (e1.trans e2) (.cons (ArgE.ext e2 p1) p2)⟩⟩
def pSp (K:KW)(n:Nat)(m:List En->Option En):Sp:=λvs H Q _=>
 ∃F xs o,Same F H/\xs.length=n/\Paired (λx v=>ArgE K F H x v) xs vs/\m xs=some o/\∀v F' H',Ext F H F' H'->RepE K ⟨F,H⟩ F' H' o v->Q v H'
def frzO:En->Option D
 |.val d=>some d
 |.acc ds=>some (.lst ds)
 |.tre t=>some t.erase
 |_=>none
def accO:En->Option #[3]
 |.acc ds=>some ds
 |_=>none
theorem Kc {K:KW}{F H F' H':Hp}{o:En}{d:D}{v:V}(hd:frzO o=some d)(e:Ext F H F' H')(r:RepE K ⟨F,H⟩ F' H' o v):∃F2,Ext F H F2 H'/\Rp K F2 d v:=by
 cases o with
 |val x=>cases hd;exact⟨F',e,r⟩
 |acc ds=>
  cases hd
  obtain⟨a,vs,rfl,h1,h2,h3,h4⟩:=r
  exact⟨upd F' a (.lst vs),e.freeze h3 h2 h1,⟨a,vs,rfl,zy,h4.mono (ye h2)⟩⟩
 |tre t=>
  cases hd
  obtain⟨r1,r2,r3⟩:=r
  have sf:Same F' (addF F' H' (feetO H' t v)):=jO λa ha=>(r3 a ha).1
  refine⟨addF F' H' (feetO H' t v),⟨e.ff.trans sf,e.hh,λb u q=>?_,λb q=>?_⟩,RepO.fz sf r1 λa ha=>ha⟩
  ·unfold addF at q
   split at q
   ·exact q
   ·exact e.fh b u q
  ·unfold addF at q
   split at q
   ·rename_i hb;exact .inr (r3 b hb).2
   ·exact e.nw b q
 |_=>cases hd
def gCall {α:Type}(m:List En->Option En)(f:En->Option α)(gs:EnvD->Option (List En)):EnvD->Option α:=λρ=>((gs ρ).bind m).bind f
theorem bindC {α:Type}{m:List En->Option En}{f:En->Option α}{gs:EnvD->Option (List En)}{ρ:EnvD}{y:α}(h:gCall m f gs ρ=some y):∃xs o,gs ρ=some xs/\m xs=some o/\f o=some y:=by
 unfold gCall at h
 cases q:gs ρ with
 |none=>rw[q] at h;cases h
 |some xs=>
  rw[q] at h
  cases q2:m xs with
  |none=>rw[show (some xs).bind m=m xs from rfl,q2] at h;cases h
  |some o=>rw[show (some xs).bind m=m xs from rfl,q2] at h;exact⟨xs,o,rfl,q2,h⟩
theorem vI {α β:Type}{R:α->β->Prop}{l:List α}{r:List β}(h:Paired R l r):l.length=r.length:=Paired.length h
theorem zgf {n:Nat}{m:List En->Option En}(hm:∀xs o,m xs=some o->xs.length=n){E:XK}{σ:St}{H:Hp}{Q:VK}(h:lG X.kw B (pE X.kw) (gCall m frzO gxs) σ H Q):tCall (pSp X.kw n m) [] E (lNs X.kw B gxs) σ H Q:=by
 obtain⟨F,ρ,d,r,hg,k⟩:=h
 obtain⟨xs,o,q1,q2,q3⟩:=bindC hg
 refine⟨F,ρ,xs,r,q1,λvs F1 H1 e1 p1=>?_⟩
 show pSp X.kw n m (vs++[]) H1 Q E
 rw[List.append_nil]
 refine⟨F1,xs,o,e1.fh,hm xs o q2,p1,q2,λv F2 H2 e2 p2=>?_⟩
 obtain⟨F3,e3,p3⟩:=Kc q3 e2 p2
 exact k v F3 H2 (e1.trans e3) p3
theorem Uc {n:Nat}{m:List En->Option En}(hm:∀xs o,m xs=some o->xs.length=n){E:XK}{σ:St}{H:Hp}{Q:VK}(h:lG X.kw B (pA X.kw) (gCall m accO gxs) σ H Q):tCall (pSp X.kw n m) [] E (lNs X.kw B gxs) σ H Q:=by
 obtain⟨F,ρ,d,r,hg,k⟩:=h
 obtain⟨xs,o,q1,q2,q3⟩:=bindC hg
 refine⟨F,ρ,xs,r,q1,λvs F1 H1 e1 p1=>?_⟩
 show pSp X.kw n m (vs++[]) H1 Q E
 rw[List.append_nil]
 refine⟨F1,xs,o,e1.fh,hm xs o q2,p1,q2,λv F2 H2 e2 p2=>?_⟩
 cases o with
 |acc ds=>
  cases q3
  obtain⟨a,ws,h1,h2,h3,h4,h5⟩:=p2
  exact k v F2 H2 (e1.trans e2) ⟨a,ws,h1,e1.hh.free h4,h2,h3,h5⟩
 |_=>cases q3
def len? (n:Nat)(m:List En->Option En):List En->Option En:=λxs=>if xs.length=n then m xs else none
theorem we {n:Nat}{m:List En->Option En}:∀xs o,len? n m xs=some o->xs.length=n:=λxs o h=>by
 unfold len? at h
 split at h
 ·assumption
 ·cases h
variable {x mm:Str}{f C:Addr}{fd:FuncData}{ps:List Str}{n k:Nat}{m:List En->Option En}{apos:Pos}{o:Expr}
theorem zbw (F:FnOk X.prog X.w X.kw X.mg X.base CX0 k f fd ps (pSp X.kw n (len? n m)))(hr:Room k X.A)(hg:Gl X x)(hm:X.mg x=some (.ref f))(hk:keepIn X.kw (.ref f)=true)(hb:Binds X.kw fd ps [])
  (ha:DNs X B (e::es) gxs) (hdb:#[20]=false:=by decide) (he:starEach (e::es) X.env=(false,eval e X.env)::starEach es X.env:=by rfl) (hpl:#[24].any (·.1)=false:=by rfl) :
  DE X B #[26] (gCall (len? n m) frzO gxs) :=
 zt (jM F hr hg hm hk hb .nil pass0 ha hdb he hpl) λσ H Q h=>zgf we h
theorem Ux (F:FnOk X.prog X.w X.kw X.mg X.base CX0 k f fd ps (pSp X.kw n (len? n m)))(hr:Room k X.A)(hg:Gl X x)(hm:X.mg x=some (.ref f))(hk:keepIn X.kw (.ref f)=true)(hb:Binds X.kw fd ps [])
  (ha:DNs X B (e::es) gxs) (hdb:#[20]=false:=by decide) (he:starEach (e::es) X.env=(false,eval e X.env)::starEach es X.env:=by rfl) (hpl:#[24].any (·.1)=false:=by rfl) :
  DA X B #[26] (gCall (len? n m) accO gxs) :=
 zt (jM F hr hg hm hk hb .nil pass0 ha hdb he hpl) λσ H Q h=>Uc we h
end
def lookZ {α:Type}(f:Str):List Str->List α->Option α
 |k::ks,x::xs=>if f=k then some x else lookZ f ks xs
 |_,_=>none
def putZ {α:Type}(f:Str)(a:α):List Str->List α->List Str×List α
 |k::ks,x::xs=>if k=f then (k::ks,a::xs) else (k::(putZ f a ks xs).1,x::(putZ f a ks xs).2)
 |_,_=>([f],[a])
theorem uf {α:Type}{f:Str}:∀ {fs:List Str} {vs:List α},(fs.zip vs).lookup f=lookZ f fs vs
 | [],_=>by simp[lookZ]
 |_::_,[]=>by simp[lookZ]
 |k::ks,x::xs=>by
  rw[List.zip_cons_cons,List.lookup_cons]
  by_cases h:f=k
  ·subst h;simp[lookZ]
  ·rw[beq_eq_false_iff_ne.mpr h]
   simp only[lookZ,if_neg h]
   exact uf
theorem YW {K:KW}{F:Hp}{f:Str}:∀ {fs:List Str} {ds:List D} {vs:List V} {d:D},Rps K F ds vs->lookZ f fs ds=some d->∃v,lookZ f fs vs=some v/\Rp K F d v
 | [],_,_,_,_,e=>by simp[lookZ] at e
 |_::_,[],_,_,_,e=>by simp[lookZ] at e
 |k::ks,x::xs,_,d,⟨v,r,e1,h,t⟩,e=>by
  subst e1
  simp only[lookZ] at e ⊢
  by_cases hk:f=k
  ·rw[if_pos hk] at e ⊢;cases e;exact⟨v,rfl,h⟩
  ·rw[if_neg hk] at e ⊢;exact YW t e
theorem Zk {f:Str}{v:V}:∀ {fs:List Str} {vs:List V},fs.length=vs.length->putF f v (fs.zip vs)=(putZ f v fs vs).1.zip (putZ f v fs vs).2/\(putZ f v fs vs).1.length=(putZ f v fs vs).2.length
 | [],[],_=>⟨rfl,rfl⟩
 | [],_::_,h=>by simp at h
 |_::_,[],h=>by simp at h
 |k::ks,x::xs,h=>by
  obtain⟨i1,i2⟩:=Zk (f:=f) (v:=v) (fs:=ks) (vs:=xs) (by simpa using h)
  rw[List.zip_cons_cons]
  simp only[putF,putZ]
  by_cases hk:k=f
  ·rw[if_pos hk,if_pos hk]
   exact⟨rfl,by simpa using h⟩
  ·rw[if_neg hk,if_neg hk]
   exact⟨by rw[i1];rfl,by simpa using i2⟩
theorem YL {K:KW}{F:Hp}{f:Str}{d:D}{v:V}(hd:Rp K F d v):∀ {fs:List Str} {ds:List D} {vs:List V},fs.length=vs.length->Rps K F ds vs->(putZ f d fs ds).1=(putZ f v fs vs).1/\Rps K F (putZ f d fs ds).2 (putZ f v fs vs).2
 | [],ds,vs,_,r=>by
  cases ds<;>cases vs<;>exact⟨rfl,_,_,rfl,hd,rfl⟩
 |k::ks,[],_,h,r=>by cases r;simp at h
 |k::ks,x::xs,_,h,⟨w,r,e,hx,t⟩=>by
  subst e
  obtain⟨i1,i2⟩:=YL hd (fs:=ks) (by simpa using h) t
  simp only[putZ]
  by_cases hk:k=f
  ·rw[if_pos hk,if_pos hk];exact⟨rfl,_,_,rfl,hd,t⟩
  ·rw[if_neg hk,if_neg hk];exact⟨by rw[i1],_,_,rfl,hx,i2⟩
section
variable {X:Cx}{B:Bs}{e a b c o:Expr}{es:List Expr}{pos p apos:Pos}{g ga gb:EnvD->Option D}{gx:EnvD->Option En}{gxs:EnvD->Option (List En)}{C f:Addr}{fl mm x:Str}{fd:FuncData}{ps:List Str}{n k:Nat}{m:List En->Option En}
def gFld (C:Addr)(fl:Str)(g:EnvD->Option D):EnvD->Option D:=λρ=>(g ρ).bind λd=>match d with
 |.obj C' fs ds=>if C'=C then lookZ fl fs ds else none
 |_=>none
theorem Uv {ρ:EnvD}{d:D}(h:gFld C fl g ρ=some d):∃fs ds,g ρ=some (.obj C fs ds)/\lookZ fl fs ds=some d:=by
 unfold gFld at h
 cases q:g ρ with
 |none=>rw[q] at h;cases h
 |some x=>
  rw[q] at h
  cases x with
  |obj C' fs ds=>
   replace h:(if C'=C then lookZ fl fs ds else none)=some d:=h
   by_cases e:C'=C
   ·rw[if_pos e] at h;subst e;exact⟨fs,ds,rfl,h⟩
   ·rw[if_neg e] at h;cases h
  |_=>cases h
theorem z5 (cl:Cls X.kw C)(na:NoAttr X.kw C fl)(he:DE X B e g)(hb:attributeBase e fl X.env (eval e X.env)=eval e X.env:=by rfl):DE X B (.Attribute e fl pos) (gFld C fl g) :=
 zt (zcj he hb) λσ H Q ⟨F,ρ,d,r,hg,k⟩=>by
  obtain⟨fs,ds,q,hl⟩:=Uv hg
  refine⟨F,ρ,_,r,q,λv F1 H1 e1 p1=>?_⟩
  obtain⟨a,dx,vs,rfl,h1,h2,h3⟩:=p1
  obtain⟨w,h4,h5⟩:=YW h3 hl
  exact⟨a,C,dx,_,w,rfl,e1.fh _ _ h1,cl,na,by rw[uf];exact h4,k w F1 H1 e1 h5⟩
def gMeth {α:Type}(C:Addr)(mm:Str)(m:List En->Option En)(f:En->Option α)(go:EnvD->Option D)(gs:EnvD->Option (List En)):EnvD->Option α:=λρ=>(go ρ).bind λd=>match d with
 |.obj C' fs ds=>if C'=C/\lookZ mm fs ds=none then ((gs ρ).bind λxs=>m (.val d::xs)).bind f else none
 |_=>none
theorem Vx {α:Type}{f:En->Option α}{go:EnvD->Option D}{gs:EnvD->Option (List En)}{ρ:EnvD}{y:α}(h:gMeth C mm m f go gs ρ=some y) :
  ∃fs ds xs o,go ρ=some (.obj C fs ds)/\lookZ mm fs ds=none/\gs ρ=some xs/\m (.val (.obj C fs ds)::xs)=some o/\f o=some y:=by
 unfold gMeth at h
 cases q:go ρ with
 |none=>rw[q] at h;cases h
 |some x=>
  rw[q] at h
  cases x with
  |obj C' fs ds=>
   replace h:(if C'=C/\lookZ mm fs ds=none then ((gs ρ).bind λxs=>m (.val (.obj C' fs ds)::xs)).bind f else none)=some y:=h
   by_cases e:C'=C/\lookZ mm fs ds=none
   ·rw[if_pos e] at h
    obtain⟨e,hl⟩:=e
    subst e
    cases q2:gs ρ with
    |none=>rw[q2] at h;cases h
    |some xs=>
     rw[q2] at h
     replace h:(m (.val (.obj C' fs ds)::xs)).bind f=some y:=h
     cases q3:m (.val (.obj C' fs ds)::xs) with
     |none=>rw[q3] at h;cases h
     |some o=>rw[q3] at h;exact⟨fs,ds,xs,o,rfl,hl,rfl,q3,h⟩
   ·rw[if_neg e] at h;cases h
  |_=>cases h
theorem Z7 {α β:Type}{f:Str}:∀ {fs:List Str} {ds:List α} {vs:List β},ds.length=vs.length->lookZ f fs ds=none->lookZ f fs vs=none
 | [],_,_,_,_=>by simp[lookZ]
 |_::_,[],vs,h,_=>by
  cases vs with
  |nil=>simp[lookZ]
  |cons=>simp at h
 |_::_,_::_,[],h,_=>by simp at h
 |k::ks,x::xs,v::vs,h,e=>by
  simp only[lookZ] at e ⊢
  by_cases hk:f=k
  ·rw[if_pos hk] at e;cases e
  ·rw[if_neg hk] at e ⊢;exact Z7 (by simpa using h) e
theorem V7 {E:XK}{σ:St}{H:Hp}{Q:VK}(h:lG X.kw B (pE X.kw) (gMeth C mm (len? n m) frzO g gxs) σ H Q):tMeth C mm (pSp X.kw n (len? n m)) [] E (lG X.kw B (pE X.kw) g) (lNs X.kw B gxs) σ H Q:=by
 obtain⟨F,ρ,d,r,hg,k⟩:=h
 obtain⟨fs,ds,xs,o,q1,q2,q3,q4,q5⟩:=Vx hg
 refine⟨F,ρ,_,r,q1,λv F1 H1 e1 p1=>?_⟩
 obtain⟨a,dx,vs,rfl,h1,h2,h3⟩:=id p1
 refine⟨a,dx,_,rfl,e1.fh _ _ h1,by rw[uf];exact Z7 h3.length q2,F1,ρ,xs,r.ext e1,q3,λws F2 H2 e2 p2=>?_⟩
 show pSp X.kw n (len? n m) (.ref a::(ws++[])) H2 Q E
 rw[List.append_nil]
 refine⟨F2,_,o,e2.fh,we _ _ q4,.cons (Rp.mono e2.ff p1) p2,q4,λw F3 H3 e3 p3=>?_⟩
 obtain⟨F4,e4,p4⟩:=Kc q5 e3 p3
 exact k w F4 H3 (e1.trans (e2.trans e4)) p4
theorem zhn {E:XK}{σ:St}{H:Hp}{Q:VK}(h:lG X.kw B (pA X.kw) (gMeth C mm (len? n m) accO g gxs) σ H Q):tMeth C mm (pSp X.kw n (len? n m)) [] E (lG X.kw B (pE X.kw) g) (lNs X.kw B gxs) σ H Q:=by
 obtain⟨F,ρ,d,r,hg,k⟩:=h
 obtain⟨fs,ds,xs,o,q1,q2,q3,q4,q5⟩:=Vx hg
 refine⟨F,ρ,_,r,q1,λv F1 H1 e1 p1=>?_⟩
 obtain⟨a,dx,vs,rfl,h1,h2,h3⟩:=id p1
 refine⟨a,dx,_,rfl,e1.fh _ _ h1,by rw[uf];exact Z7 h3.length q2,F1,ρ,xs,r.ext e1,q3,λws F2 H2 e2 p2=>?_⟩
 show pSp X.kw n (len? n m) (.ref a::(ws++[])) H2 Q E
 rw[List.append_nil]
 refine⟨F2,_,o,e2.fh,we _ _ q4,.cons (Rp.mono e2.ff p1) p2,q4,λw F3 H3 e3 p3=>?_⟩
 cases o with
 |acc es=>
  cases q5
  obtain⟨b,us,h4,h5,h6,h7,h8⟩:=p3
  exact k w F3 H3 (e1.trans (e2.trans e3)) ⟨b,us,h4,e1.hh.free (e2.hh.free h7),h5,h6,h8⟩
 |_=>cases q5
theorem zb3 {pl:Sem Bool}(ho:DE X B o g)(c:Cls X.kw C)(hm:Meth X.kw C mm f)(F:FnOk X.prog X.w X.kw X.mg X.base CX0 k f fd ps (pSp X.kw n (len? n m)))(hr:Room k X.A)(hb:Binds X.kw fd ps [])(ha:DNs X B (e::es) gxs)
  (hst:starEach (e::es) X.env=(false,eval e X.env)::starEach es X.env:=by rfl) (hpl:#[24].any (·.1)=false:=by rfl)
  (ht:eval (.Call (.Attribute o mm apos) (e::es) [] pos) X.env=(do
   let ov <-eval o X.env
   standAt apos.atName
   let (f,first) <-holding [ov] (getMethod ov mm pl)
   callWith pos f first (backTo pos (starEach (e::es) X.env)) (backToKw pos (keywordEach [] X.env))):=by rfl) :
  DE X B (.Call (.Attribute o mm apos) (e::es) [] pos) (gMeth C mm (len? n m) frzO g gxs) :=
 zt (zcc ho c hm F hr hb .nil pass0 ha hst hpl ht) λσ H Q h=>V7 h
theorem Uj {pl:Sem Bool}(ho:DE X B o g)(c:Cls X.kw C)(hm:Meth X.kw C mm f)(F:FnOk X.prog X.w X.kw X.mg X.base CX0 k f fd ps (pSp X.kw n (len? n m)))(hr:Room k X.A)(hb:Binds X.kw fd ps [])
  (ht:eval (.Call (.Attribute o mm apos) [] [] pos) X.env=(do
   let ov <-eval o X.env
   standAt apos.atName
   let (f,first) <-holding [ov] (getMethod ov mm pl)
   callWith pos f first (backTo pos (starEach [] X.env)) (backToKw pos (keywordEach [] X.env))):=by rfl) :
  DE X B (.Call (.Attribute o mm apos) [] [] pos) (gMeth C mm (len? n m) frzO g nNil) :=
 zt (Qv ho c hm F hr hb .nil pass0 ht) λσ H Q h=>by
  obtain⟨F,ρ,d,r,q,k⟩:=V7 (E:=E0) h
  refine⟨F,ρ,d,r,q,λv F1 H1 e1 p1=>?_⟩
  obtain⟨a,dx,fs,h1,h2,h3,F2,ρ',xs,r2,q2,k2⟩:=k v F1 H1 e1 p1
  cases q2
  exact⟨a,dx,fs,h1,h2,h3,k2 [] F2 H1 (.refl r2.fh) .nil⟩
theorem Ui {pl:Sem Bool}(ho:DE X B o g)(c:Cls X.kw C)(hm:Meth X.kw C mm f)(F:FnOk X.prog X.w X.kw X.mg X.base CX0 k f fd ps (pSp X.kw n (len? n m)))(hr:Room k X.A)(hb:Binds X.kw fd ps [])
  (ht:eval (.Call (.Attribute o mm apos) [] [] pos) X.env=(do
   let ov <-eval o X.env
   standAt apos.atName
   let (f,first) <-holding [ov] (getMethod ov mm pl)
   callWith pos f first (backTo pos (starEach [] X.env)) (backToKw pos (keywordEach [] X.env))):=by rfl) :
  DA X B (.Call (.Attribute o mm apos) [] [] pos) (gMeth C mm (len? n m) accO g nNil) :=
 zt (Qv ho c hm F hr hb .nil pass0 ht) λσ H Q h=>by
  obtain⟨F,ρ,d,r,q,k⟩:=zhn (E:=E0) h
  refine⟨F,ρ,d,r,q,λv F1 H1 e1 p1=>?_⟩
  obtain⟨a,dx,fs,h1,h2,h3,F2,ρ',xs,r2,q2,k2⟩:=k v F1 H1 e1 p1
  cases q2
  exact⟨a,dx,fs,h1,h2,h3,k2 [] F2 H1 (.refl r2.fh) .nil⟩
def iSp (K:KW)(C:Addr)(n:Nat)(mi:Addr->Addr->List En->Option #[22]):Sp:=λvs H Q _=>
 ∃F H1 xs x dx vs' fs ds,vs=.ref x::vs'/\H1 x=none/\H1 dx=none/\dx≠x/\H=upd (upd H1 dx (.own x)) x (.ins C dx [])/\Same F H1/\xs.length=n/\Paired (λy v=>ArgE K F H1 y v) xs vs'/\mi x dx xs=some (fs,ds) /\
  ∀F' H' us,Ext F H1 F' H'->F' x=none->H' x=some (.ins C dx (fs.zip us))->fs.length=us.length->Rps K F' ds us->(H' dx=some (.own x)/\F' dx=none)->Q .non H'
def gMake (C:Addr)(n:Nat)(mi:List En->Option #[22])(gs:EnvD->Option (List En)):EnvD->Option D:=λρ=>(gs ρ).bind λxs=>if xs.length=n then (mi xs).map λr=>.obj C r.1 r.2 else none
theorem G7 {mi:List En->Option #[22]}{mi':Addr->Addr->List En->Option #[22]}(hmi:∀x dx xs,mi' x dx xs=mi xs)(M:Mk X.kw C f)(F:FnOk X.prog X.w X.kw X.mg X.base CX0 k f fd ps (iSp X.kw C n mi'))(hr:Room (k+1) X.A)(hg:Gl X x)(hm:X.mg x=some (.ref C))(hb:Binds X.kw fd ps [])
  (ha:DNs X B (e::es) gxs) (hdb:#[20]=false:=by decide) (he:starEach (e::es) X.env=(false,eval e X.env)::starEach es X.env:=by rfl) (hpl:#[24].any (·.1)=false:=by rfl) :
  DE X B #[26] (gMake C n mi gxs) :=
 zt (Qi M F hr hg hm hb .nil pass0 ha hdb he hpl) λσ H Q ⟨F,ρ,d,r,hg,k⟩=>by
  unfold gMake at hg
  cases q:gxs ρ with
  |none=>rw[q] at hg;cases hg
  |some xs=>
   rw[q] at hg
   have hg:(if xs.length=n then (mi xs).map (λr=>D.obj C r.1 r.2) else none)=some d:=hg
   split at hg
   ·rename_i hl
    cases q2:mi xs with
    |none=>rw[q2] at hg;cases hg
    |some fr=>
     rw[q2] at hg
     cases hg
     refine⟨F,ρ,xs,r,q,λvs F1 H1 e1 p1 x dx nx ndx nex=>?_⟩
     show iSp X.kw C n mi' (.ref x::(vs++[])) _ _ _
     rw[List.append_nil]
     refine⟨F1,H1,xs,x,dx,vs,fr.1,fr.2,rfl,nx,ndx,nex,rfl,e1.fh,hl,p1,by rw[hmi];exact q2,λF2 H2 us e2 h1 h2 h3 h4 _=>⟨rfl,?_⟩⟩
     exact k _ (upd F2 x (.ins C dx (fr.1.zip us))) H2 (e1.trans (e2.freeze nx h1 h2)) ⟨x,dx,us,rfl,zy,h3,h4.mono (ye h1)⟩
   ·cases hg
end
inductive Fl where
 |next (ρ:EnvD) | ret (o:En) | brk (ρ:EnvD) | cont (ρ:EnvD)
def Fl.ok (K:KW)(B:Bs)(F:Hp)(E:Ends):Fl->Prop
 |.next ρ=>∀σ' F' H',Rep K B F' σ' H' ρ->Same F F'->E.nx σ' H'
 |.brk ρ=>∀σ' F' H',Rep K B F' σ' H' ρ->Same F F'->E.bk σ' H'
 |.cont ρ=>∀σ' F' H',Rep K B F' σ' H' ρ->Same F F'->E.ct σ' H'
 |.ret o=>∀v F' H',Ext B.F0 B.H0 F' H'->RepE K B F' H' o v->E.rt v H'
abbrev SD:=EnvD->Option Fl
def lS (K:KW)(B:Bs)(g:SD):TS:=λE σ H=>∃F ρ fl,Rep K B F σ H ρ/\g ρ=some fl/\fl.ok K B F E
def DS (X:Cx)(B:Bs)(st:Stmt)(g:SD):Prop:=PS X st (lS X.kw B g)
def DSs (X:Cx)(B:Bs)(sts:List Stmt)(g:SD):Prop:=PSs X sts (lS X.kw B g)
theorem Fl.ok.mono {K:KW}{B:Bs}{F F':Hp}{E:Ends}{fl:Fl}(s:Same F F')(h:fl.ok K B F E):fl.ok K B F' E:=by
 cases fl with
 |next ρ=>exact λσ' F2 H' r s2=>h σ' F2 H' r (s.trans s2)
 |brk ρ=>exact λσ' F2 H' r s2=>h σ' F2 H' r (s.trans s2)
 |cont ρ=>exact λσ' F2 H' r s2=>h σ' F2 H' r (s.trans s2)
 |ret o=>exact h
section
variable {X:Cx}{B:Bs}{e a b c o:Expr}{es:List Expr}{st:Stmt}{rest:List Stmt}{pos p apos:Pos}{g ga gb:EnvD->Option D}{gl:EnvD->Option #[3]}{gs1 gs2:SD}{x:Str}
def sSeq (g1 g2:SD):SD:=λρ=>(g1 ρ).bind λfl=>match fl with
 |.next ρ'=>g2 ρ'
 |fl=>some fl
def sNext:SD:=λρ=>some (.next ρ)
theorem zE:DSs X B [] sNext:=xb K0 λE σ H ⟨F,ρ,fl,r,hg,k⟩=>by cases hg;exact k σ F H r (Same.refl _)
theorem zg (h:DS X B st gs1):DSs X B [st] gs1:=zgs h
theorem zf (h1:DS X B st gs1)(h2:DSs X B rest gs2):DSs X B (st::rest) (sSeq gs1 gs2) :=
 xb (wl h1 h2) λE σ H ⟨F,ρ,fl,r,hg,k⟩=>by
  unfold sSeq at hg
  cases q:gs1 ρ with
  |none=>rw[q] at hg;cases hg
  |some f1=>
   rw[q] at hg
   refine⟨F,ρ,f1,r,q,?_⟩
   cases f1 with
   |next ρ'=>exact λσ' F' H' r' s'=>⟨F',ρ',fl,r',hg,k.mono s'⟩
   |brk ρ'=>cases hg;exact k
   |cont ρ'=>cases hg;exact k
   |ret o'=>cases hg;exact k
def sFrz (i:Nat)(g:SD):SD:=λρ=>g (frzE i ρ)
theorem V3 (i:Nat)(h:DS X B st gs1):DS X B st (sFrz i gs1):=zD h λE σ H ⟨F,ρ,fl,r,hg,k⟩=>by
 obtain⟨F',s',r'⟩:=r.frz i
 exact⟨F',_,fl,r',hg,k.mono s'⟩
def sSet (i:Nat)(g:EnvD->Option D):SD:=λρ=>(g ρ).map λd=>.next (ρ.set i (some (.val d)))
def sSetA (i:Nat)(g:EnvD->Option #[3]):SD:=λρ=>(g ρ).map λds=>.next (ρ.set i (some (.acc ds)))
theorem JQ {i:Nat}{E:Ends}{σ:St}{H:Hp}(h:lS X.kw B (sSet i g) E σ H):tAsg (lG X.kw B (pE X.kw) g) (gName i) E σ H:=by
 obtain⟨F,ρ,fl,r,hg,k⟩:=h
 unfold sSet at hg
 cases q:g ρ with
 |none=>rw[q] at hg;cases hg
 |some d=>
  rw[q] at hg
  cases hg
  exact⟨F,ρ,d,r,q,λv F1 H1 e1 p1=>k _ F1 H1 ((r.ext e1).setv p1) e1.ff⟩
theorem Rs {i:Nat}{E:Ends}{σ:St}{H:Hp}(h:lS X.kw B (sSetA i gl) E σ H):tAsg (lG X.kw B (pA X.kw) gl) (gName i) E σ H:=by
 obtain⟨F,ρ,fl,r,hg,k⟩:=h
 unfold sSetA at hg
 cases q:gl ρ with
 |none=>rw[q] at hg;cases hg
 |some ds=>
  rw[q] at hg
  cases hg
  refine⟨F,ρ,ds,r,q,λv F1 H1 e1 p1=>k _ F1 H1 ((r.ext e1).seto ?_ ?_) e1.ff⟩
  ·obtain⟨a,vs,h1,h2,h3,h4,h5⟩:=p1
   exact⟨a,vs,h1,h3,h4,r.ex.hh.free h2,h5⟩
  ·intro j y w hj hs _ b hb hc
   obtain⟨a,vs,h1,h2,h3,h4,h5⟩:=p1
   subst h1
   simp only[feetE,List.mem_singleton] at hb
   subst hb
   obtain⟨w',hw,hr⟩:=r.ents j y hj
   rw[hs] at hw;cases hw
   rw[hr.feet_ext e1.hh] at hc
   exact (hr.feet_at hc).1 h2
theorem zq {i:Nat}{x:Str}{pos':Pos}(hN:X.N.Nodup)(hi:X.N[i]?=some x)(hx:Loc X.env.scope x)(he:DE X B e g)(hs:swapsWith e (some (.Name x pos')) pos.line X.env=pure false:=by rfl)(hf:X.fn x=true∨X.env.scope.names.lookup x=some .local:=by first | exact .inl rfl | exact .inr rfl | assumption) :
  DS X B (.Assign [.Name x pos'] e pos) (sSet i g):=zD (wk hN hi hx he hs hf) λE σ H h=>JQ h
theorem yB {i:Nat}{x:Str}{pos':Pos}(hN:X.N.Nodup)(hi:X.N[i]?=some x)(hx:Loc X.env.scope x)(he:DA X B e gl)(hs:swapsWith e (some (.Name x pos')) pos.line X.env=pure false:=by rfl)(hf:X.fn x=true∨X.env.scope.names.lookup x=some .local:=by first | exact .inl rfl | exact .inr rfl | assumption) :
  DS X B (.Assign [.Name x pos'] e pos) (sSetA i gl):=zD (wk hN hi hx he hs hf) λE σ H h=>Rs h
def sRet (g:EnvD->Option D):SD:=λρ=>(g ρ).map λd=>.ret (.val d)
def sRetA (g:EnvD->Option #[3]):SD:=λρ=>(g ρ).map λd=>.ret (.acc d)
theorem zx (he:DE X B e g):DS X B (.Return (some e) pos) (sRet g):=zD (v9 he) λE σ H ⟨F,ρ,fl,r,hg,k⟩=>by
 unfold sRet at hg
 cases q:g ρ with
 |none=>rw[q] at hg;cases hg
 |some d=>rw[q] at hg;cases hg;exact⟨F,ρ,d,r,q,λv F1 H1 e1 p1=>k v F1 H1 (r.ex.trans e1) p1⟩
theorem Zi (he:DA X B e gl):DS X B (.Return (some e) pos) (sRetA gl):=zD (v9 he) λE σ H ⟨F,ρ,fl,r,hg,k⟩=>by
 unfold sRetA at hg
 cases q:gl ρ with
 |none=>rw[q] at hg;cases hg
 |some d=>
  rw[q] at hg;cases hg
  refine⟨F,ρ,d,r,q,λv F1 H1 e1 p1=>k v F1 H1 (r.ex.trans e1) ?_⟩
  obtain⟨a,vs,h1,h2,h3,h4,h5⟩:=p1
  exact⟨a,vs,h1,h3,h4,r.ex.hh.free h2,h5⟩
def sRetV (i:Nat):SD:=λρ=>match ρ[i]? with
 |some (some (.acc ds))=>some (.ret (.acc ds))
 |some (some (.val d))=>some (.ret (.val d))
 |_=>none
theorem xK (i:Nat)(h:PE X #[11] (tVar i)):DS X B (.Return (some #[11]) pos) (sRetV i):=zD (v9 h) λE σ H ⟨F,ρ,fl,r,hg,k⟩=>by
 unfold sRetV at hg
 split at hg
 ·rename_i ds q
  cases hg
  obtain⟨v,h1,h2⟩:=r.ents i _ q
  exact⟨v,h1,k v F H r.ex h2⟩
 ·rename_i d q
  cases hg
  obtain⟨v,h1,h2⟩:=r.ents i _ q
  exact⟨v,h1,k v F H r.ex h2⟩
 ·cases hg
def sIf (t:EnvD->Option Bool)(g1 g2:SD):SD:=λρ=>(t ρ).bind λb=>if b then g1 ρ else g2 ρ
theorem zA {t:EnvD->Option Bool}{as bs:List Stmt}(hc:DT X B c t)(ha:DSs X B as gs1)(hb:DSs X B bs gs2):DS X B (.If c as bs pos) (sIf t gs1 gs2):=zD (Jl hc ha hb) λE σ H ⟨F,ρ,fl,r,hg,k⟩=>by
 unfold sIf at hg
 cases q:t ρ with
 |none=>rw[q] at hg;cases hg
 |some b=>
  rw[q] at hg
  refine⟨F,ρ,b,r,q,λF1 H1 e1=>?_⟩
  cases b with
  |true=>exact iteT ⟨F1,ρ,fl,r.ext e1,hg,k.mono e1.ff⟩
  |false=>exact iteF ⟨F1,ρ,fl,r.ext e1,hg,k.mono e1.ff⟩
def sNever:SD:=λ_=>none
theorem yW:DS X B st sNever:=zD zcw λE σ H ⟨F,ρ,fl,r,hg,k⟩=>by cases hg
def sExpr (g:EnvD->Option D):SD:=λρ=>(g ρ).map λ_=>.next ρ
theorem Kg (he:DE X B e g)(hs:swapsWith e none pos.line X.env=pure false:=by rfl):DS X B (.Expr e pos) (sExpr g):=zD (wy he hs) λE σ H ⟨F,ρ,fl,r,hg,k⟩=>by
 unfold sExpr at hg
 cases q:g ρ with
 |none=>rw[q] at hg;cases hg
 |some d=>rw[q] at hg;cases hg;exact⟨F,ρ,d,r,q,λv F1 H1 e1 p1=>k σ F1 H1 (r.ext e1) e1.ff⟩
def sApp (i:Nat)(g:EnvD->Option D):SD:=λρ=>match ρ[i]? with
 |some (some (.acc ds))=>(g ρ).bind λd=>if ds.length<=TOP then some (.next (ρ.set i (some (.acc (ds++[d]))))) else none
 |_=>none
theorem yy (i:Nat){cpos:Pos}(hx:PE X #[11] (tVar i))(he:DE X B e g)
  (hbase:attributeBase #[11] "append" X.env (eval #[11] X.env)=eval #[11] X.env:=by rfl)
  (hfew:((backTo cpos (starEach [e] X.env)).all (λx=>!x.1)&&(backToKw cpos (keywordEach [] X.env)).all (λx=>x.1.isSome)
   && decide (([e]:List Expr).length+([]:List Keyword).length+(if ([]:List Keyword).isEmpty then 0 else 1) < 30))=true:=by rfl)
  (hline:(apos.endLine==cpos.line)=true:=by rfl) (hs:starEach [e] X.env=(false,eval e X.env)::starEach [] X.env:=by rfl) (hplain:(backTo cpos (starEach [] X.env)).any (·.1)=false:=by rfl)
  (hsw:swapsWith (.Call (.Attribute #[11] "append" apos) [e] [] cpos) none pos.line X.env=pure false:=by rfl) :
  DS X B (.Expr (.Call (.Attribute #[11] "append" apos) [e] [] cpos) pos) (sApp i g) :=
 zD (wy (UO PySem.F.plainAttrs_list PySem.F.slot_list_append PySem.F.type_list_append zcf hx (zW he yr hs) hbase hfew hline hs hplain) hsw) λE σ H ⟨F,ρ,fl,r,hg,k⟩=>by
  unfold sApp at hg
  split at hg
  ·rename_i ds q
   cases q2:g ρ with
   |none=>rw[q2] at hg;cases hg
   |some d=>
    rw[q2] at hg
    have hg:(if ds.length<=TOP then some (Fl.next (ρ.set i (some (.acc (ds++[d]))))) else none)=some fl:=hg
    split at hg
    ·rename_i hl
     cases hg
     obtain⟨v,hv,a,vs,rfl,h1,h2,h3,h4⟩:=r.ents i _ q
     refine⟨.ref a,hv,.inl ⟨rfl,_,.of h1⟩,F,ρ,d,r,q2,λw F1 H1 e1 p1=>?_⟩
     have r1:=r.ext e1
     obtain⟨v',hv',a',vs',e',g1,g2,g3,g4⟩:=r1.ents i _ q
     rw[hv] at hv';cases hv';cases e'
     refine⟨a,vs',w,rfl,rfl,g1,za7 (by rw[<-g4.length];exact hl),k σ F1 _ (r1.write q rfl hv g2 g3 ⟨a,_,rfl,zy,g2,g3,g4.snoc p1⟩ rfl) e1.ff⟩
    ·cases hg
  ·cases hg
def sPop (i:Nat):SD:=λρ=>match ρ[i]? with
 |some (some (.acc ds))=>if ds.isEmpty then none else some (.next (ρ.set i (some (.acc ds.dropLast))))
 |_=>none
theorem zap {K:KW}{F:Hp}:∀ {ds:List D} {vs:List V},Rps K F ds vs->Rps K F ds.dropLast vs.dropLast:=fun {ds vs} r=>by
 rw[List.dropLast_eq_take,List.dropLast_eq_take,<-r.length]
 exact r.take _
theorem zfc (i:Nat){cpos:Pos}(hm:MtR X "list.pop" rPop) (hx:PE X #[11] (tVar i))
  (hbase:attributeBase #[11] "pop" X.env (eval #[11] X.env)=eval #[11] X.env:=by rfl) (hline:(apos.endLine==cpos.line)=true:=by rfl)
  (hsw:swapsWith (.Call (.Attribute #[11] "pop" apos) [] [] cpos) none pos.line X.env=pure false:=by rfl) :
  DS X B (.Expr (.Call (.Attribute #[11] "pop" apos) [] [] cpos) pos) (sPop i) :=
 zD (wy (We PySem.F.plainAttrs_list PySem.F.slot_list_pop PySem.F.type_list_pop hm hx hbase hline) hsw) λE σ H ⟨F,ρ,fl,r,hg,k⟩=>by
  unfold sPop at hg
  split at hg
  ·rename_i ds q
   split at hg
   ·cases hg
   ·rename_i hl
    cases hg
    obtain⟨v,hv,a,vs,rfl,h1,h2,h3,h4⟩:=r.ents i _ q
    have hlen:0 < vs.length:=by
     rw[<-h4.length]
     cases ds with
     |nil=>simp at hl
     |cons=>simp
    have hy:vs[vs.length - 1]?=some vs[vs.length - 1]:=List.getElem?_eq_getElem #[1]
    exact⟨.ref a,hv,.inl ⟨rfl,_,.of h1⟩,a,vs,_,rfl,rfl,h1,hy,k σ F _ (r.write q rfl hv h2 h3 ⟨a,_,rfl,zy,h2,h3,zap h4⟩ rfl) (Same.refl _)⟩
  ·cases hg
def sPut (i:Nat)(gi g:EnvD->Option D):SD:=λρ=>match ρ[i]? with
 |some (some (.acc ds))=>(g ρ).bind λd=>((gi ρ).bind asI).bind λj=>(ixN ds.length j).map λn=>.next (ρ.set i (some (.acc (ds.set n d))))
 |_=>none
theorem zfh (i:Nat){gi:EnvD->Option D}{ie:Expr}(hx:PE X #[11] (tVar i))(hi:DE X B ie gi)(he:DE X B e g){tpos:Pos}
  (ha:∀v,assign (.Subscript #[11] ie tpos) X.env v=(do
   let ov <-holding [v] (eval #[11] X.env)
   let iv <-holding [v,ov] (eval ie X.env)
   standAt tpos
   holding [v,ov,iv] (setItem ov iv v)
   release [v,ov,iv] []):=by intro _;rfl)
  (hs:swapsWithSole [.Subscript #[11] ie tpos] e pos.line X.env=pure false:=by rfl) (hw:swappedStores [.Subscript #[11] ie tpos] e X.env=pure none:=by rfl)
  (h1:(assignEach [.Subscript #[11] ie tpos] X.env).map (·.2)=[assign (.Subscript #[11] ie tpos) X.env]:=by rfl) :
  DS X B (.Assign [.Subscript #[11] ie tpos] e pos) (sPut i gi g) :=
 zD (uT he (GX hx hi Ru ha) hs hw h1) λE σ H ⟨F,ρ,fl,r,hg,k⟩=>by
  unfold sPut at hg
  split at hg
  ·rename_i ds q
   cases q2:g ρ with
   |none=>rw[q2] at hg;cases hg
   |some d=>
    cases q3:gi ρ with
    |none=>rw[q2,q3] at hg;cases hg
    |some di=>
     rw[q2,q3] at hg
     have hg:((asI di).bind λj=>(ixN ds.length j).map λn=>Fl.next (ρ.set i (some (.acc (ds.set n d)))))=some fl:=hg
     cases q4:asI di with
     |none=>rw[q4] at hg;cases hg
     |some j=>
      rw[q4] at hg
      have hg:((ixN ds.length j).map λn=>Fl.next (ρ.set i (some (.acc (ds.set n d)))))=some fl:=hg
      cases q5:ixN ds.length j with
      |none=>rw[q5] at hg;cases hg
      |some n=>
       rw[q5] at hg
       cases hg
       rw[Kt q4] at q3
       refine⟨F,ρ,d,r,q2,λw F1 H1 e1 p1=>?_⟩
       have r1:=r.ext e1
       obtain⟨v,hv,a,vs,rfl,g1,g2,g3,g4⟩:=r1.ents i _ q
       refine⟨.ref a,hv,F1,ρ,_,r1,q3,λu F2 H2 e2 p2=>?_⟩
       have r2:=r1.ext e2
       obtain⟨v',hv',a',vs',e',f1,f2,f3,f4⟩:=r2.ents i _ q
       rw[hv] at hv';cases hv';cases e'
       exact⟨a,vs',j,n,rfl,p2,f1,by rw[<-f4.length];exact q5,k σ F2 _ (r2.write q rfl hv f2 f3 ⟨a,_,rfl,zy,f2,f3,Rps.set (Rp.mono e2.ff p1) n f4⟩ rfl) (e1.ff.trans e2.ff)⟩
  ·cases hg
def sFldD (i:Nat)(C:Addr)(fl:Str)(g:EnvD->Option D):SD:=λρ=>match ρ[i]? with
 |some (some (.oac a dx C' fs ds))=>if C'=C/\fs.length < 900 then (g ρ).map λd=>.next (ρ.set i (some (.oac a dx C (putZ fl d fs ds).1 (putZ fl d fs ds).2))) else none
 |_=>none
theorem yc (i:Nat){C:Addr}{fl:Str}{pos':Pos}(cl:Cls X.kw C)(na:NoAttr X.kw C fl)(hx:PE X #[11] (tVar i))(he:DE X B e g)(hs:swapsWith e (some (.Attribute #[11] fl pos')) pos.line X.env=pure false:=by rfl) :
  DS X B (.Assign [.Attribute #[11] fl pos'] e pos) (sFldD i C fl g) :=
 zD (Kq hx he hs) λE σ H ⟨F,ρ,f,r,hg,k⟩=>by
  unfold sFldD at hg
  split at hg
  ·rename_i a dx C' fs ds q
   split at hg
   ·rename_i hc
    obtain⟨rfl,hlen⟩:=hc
    cases q2:g ρ with
    |none=>rw[q2] at hg;cases hg
    |some d=>
     rw[q2] at hg
     cases hg
     refine⟨F,ρ,d,r,q2,λw F1 H1 e1 p1=>?_⟩
     have r1:=r.ext e1
     obtain⟨v,hv,vs,rfl,g1,g2,g3,g4,g5,d1,d2,d3⟩:=r1.ents i _ q
     obtain⟨z1,z2⟩:=Zk (f:=fl) (v:=w) g2
     obtain⟨z3,z4⟩:=YL (f:=fl) p1 g2 g5
     refine⟨.ref a,hv,a,C',dx,_,rfl,g1,cl,na,?_,k σ F1 _ (r1.write q rfl hv g3 g4 ⟨_,rfl,?_,?_,g3,g4,z4,by rw[zr (x6 d1 g1 (by intro z;cases z))];exact d1,d2,d3⟩ rfl) e1.ff⟩
     ·have:(fs.zip vs).length<=fs.length:=by rw[List.length_zip];exact Nat.min_le_left _ _
      omega
     ·rw[zy,z1,z3]
     ·rw[z3,z2]
   ·cases hg
  ·cases hg
end
inductive Tgt where
 |name (i:Nat) | tup (is:List Nat)
def gNames:List Nat->TGs
 | []=>L2.gNil
 |i::is=>gCons (gName i) (gNames is)
def tgT (K:KW):Tgt->TG
 |.name i=>gName i
 |.tup is=>gTup K is.length (gNames is)
def z7:List Nat->List D->EnvD->EnvD
 |i::is,d::ds,ρ=>z7 is ds (ρ.set i (some (.val d)))
 |_,_,ρ=>ρ
def asgD:Tgt->D->EnvD->Option EnvD
 |.name i,d,ρ=>some (ρ.set i (some (.val d)))
 |.tup is,.tup ds,ρ=>if ds.length=is.length then some (z7 is ds ρ) else none
 |_,_,_=>none
inductive SetOf:List Nat->St->St->Prop
 |refl {is σ}:SetOf is σ σ
 |step {is σ σ' i v}:i∈is->SetOf is (σ.set i v) σ'->SetOf is σ σ'
def Tgt.slots:Tgt->List Nat
 |.name i=>[i]
 |.tup is=>is
theorem SetOf.pre {is:List Nat}{σ σ':St}(h:SetOf is σ σ'):∀ {σ1 cv:St},σ=σ1++cv->(∀i∈is,i < σ1.length)->∃σ1',σ1'.length=σ1.length/\σ'=σ1'++cv:=by
 induction h with
 |refl=>intro σ1 cv e _;exact⟨σ1,rfl,e⟩
 | @step σ σ' i v hi _ ih=>
  intro σ1 cv e hl
  obtain⟨s,h1,h2⟩:=ih (σ1:=σ1.set i v) (cv:=cv) (by rw[e,List.set_append_left _ _ (hl i hi)]) (λj hj=>by rw[List.length_set];exact hl j hj)
  exact⟨s,by rw[h1,List.length_set],h2⟩
theorem ZJ {K:KW}{B:Bs}{F H:Hp}{all:List Nat}:∀ {is:List Nat} {ds:List D} {vs:List V} {σ:St} {ρ:EnvD} {Q:St->Hp->Prop},Rep K B F σ H ρ->Rps K F ds vs->ds.length=is.length->(∀i∈is,i∈all) ->
  (∀σ',Rep K B F σ' H (z7 is ds ρ)->SetOf all σ σ'->Q σ' H)->gNames is vs σ H Q
 | [],[],_,σ,ρ,Q,r,h,_,_,k=>by cases h;exact⟨rfl,k σ r .refl⟩
 | [],_::_,_,_,_,_,_,_,hl,_,_=>by simp at hl
 |_::_,[],_,_,_,_,_,_,hl,_,_=>by simp at hl
 |i::is,d::ds,_,σ,ρ,Q,r,⟨v,w,e,h,t⟩,hl,ha,k=>by
  subst e
  refine⟨v,w,rfl,?_⟩
  exact ZJ (r.setv h) t (by simpa using hl) (λj hj=>ha j (List.mem_cons_of_mem _ hj)) λσ' r' s'=>k σ' r' (.step (ha i List.mem_cons_self) s')
theorem jU {K:KW}{B:Bs}{F H:Hp}{t:Tgt}{d:D}{v:V}{σ:St}{ρ ρ':EnvD}{Q:St->Hp->Prop}(r:Rep K B F σ H ρ)(h:Rp K F d v)(e:asgD t d ρ=some ρ')(k:∀σ',Rep K B F σ' H ρ'->SetOf t.slots σ σ'->Q σ' H):tgT K t v σ H Q:=by
 cases t with
 |name i=>cases e;exact k _ (r.setv h) (.step (List.mem_singleton.mpr rfl) .refl)
 |tup is=>
  cases d with
  |tup ds=>
   have e:(if ds.length=is.length then some (z7 is ds ρ) else none)=some ρ':=e
   split at e
   ·rename_i hl
    cases e
    obtain⟨a,vs,rfl,h1,h2⟩:=h
    exact⟨a,vs,rfl,.of (r.fh _ _ h1),by rw[<-h2.length];exact hl,ZJ r h2 hl (λi hi=>hi) k⟩
   ·cases e
  |_=>cases e
def Jok (K:KW)(Hb:Hp)(J:It)(F:Hp)(ds:List D):Prop:=∀F2 H2,Same F F2->Same F2 H2->Same Hb H2->∀i,
 (i < ds.length->J.go i H2/\∀x H3,J.yld i H2 x H3->∃F3 d,Ext F2 H2 F3 H3/\ds[i]?=some d/\Rp K F3 d x)/\(i=ds.length->J.stop i H2)
def lI (K:KW)(B:Bs)(hb:Hp->Hp)(g:EnvD->Option #[3]):TI:=λσ H R=>∃F ρ ds,Rep K B F σ H ρ/\g ρ=some ds/\∀J F' H',Ext F H F' H'->Jok K (hb H') J F' ds->R J H'
def DI (X:Cx)(B:Bs)(hb:Hp->Hp)(tg iter:Expr)(g:EnvD->Option #[3]):Prop:=PI X tg iter (lI X.kw B hb g)
def pQ (K:KW)(hb:Hp->Hp):Post D:=λ_ _ F' H' d v=>Rq K F' (hb H') d v
def DQ (X:Cx)(B:Bs)(hb:Hp->Hp)(e:Expr)(g:EnvD->Option D):Prop:=PE X e (lG X.kw B (pQ X.kw hb) g)
def HbOk (B:Bs)(hb:Hp->Hp):Prop:=(∀H,Same B.H0 H->Same (hb H) H)/\∀H H',Same H H'->Same (hb H) (hb H')
theorem hb0 {B:Bs}:HbOk B (λ_=>B.H0):=⟨λ_ h=>h,λ_ _ _=>Same.refl _⟩
theorem hb1 {B:Bs}:HbOk B (λH=>H):=⟨λ_ _=>Same.refl _,λ_ _ h=>h⟩
section
variable {X:Cx}{B:Bs}{hb:Hp->Hp}{e a b c tg iter:Expr}{es:List Expr}{pos p:Pos}{g ga gb:EnvD->Option D}{gi:EnvD->Option #[3]}{gs gbd:SD}{x:Str}
theorem DE.fix (h:DE X B e g):DQ X B hb e g:=zt h λσ H Q ⟨F,ρ,x,r,hg,k⟩=>⟨F,ρ,x,r,hg,λv F' H' e p=>k v F' H' e (.inl p)⟩
theorem DR.cur (h:DR X B e g):DQ X B (λH=>H) e g:=h
def gf (i:Nat):EnvD->Option D:=λρ=>match ρ[i]? with
 |some (some (.val d))=>some d
 |some (some (.bor ds))=>some (.lst ds)
 |_=>none
theorem yu (i:Nat)(h:PE X (.Name x pos) (tVar i)):DQ X B (λ_=>B.H0) (.Name x pos) (gf i) :=
 zt h λσ H Q ⟨F,ρ,d,r,hg,k⟩=>by
  unfold gf at hg
  split at hg
  ·rename_i d' e
   cases hg
   obtain⟨v,h1,h2⟩:=r.ents i _ e
   exact⟨v,h1,k v F H (.refl r.fh) (.inl h2)⟩
  ·rename_i ds e
   cases hg
   obtain⟨v,h1,a,vs,e1,e2,e5⟩:=r.ents i _ e
   exact⟨v,h1,k v F H (.refl r.fh) (.inr ⟨a,vs,ds,rfl,e1,e2,e5⟩)⟩
  ·cases hg
def itL:D->Option #[3]
 |.lst ds=>some ds
 |.scr ns=>some (ns.map D.int)
 |_=>none
theorem ua {K:KW}{F Hb:Hp}{d:D}{v:V}{ds:List D}(r:Rq K F Hb d v)(h:itL d=some ds):∃a vs,v=.ref a/\Rps K F ds vs/\∀F2 H2,Same F F2->Same F2 H2->Same Hb H2->SqL K H2 a vs:=by
 cases d with
 |lst es=>
  cases h
  rcases r with⟨a,vs,rfl,q,t⟩ | ⟨a,vs,ds',e1,rfl,q,t⟩
  ·exact⟨a,vs,rfl,t,λF2 H2 s1 s2 _=>.of (s2 _ _ (s1 _ _ q))⟩
  ·cases e1;exact⟨a,vs,rfl,t,λF2 H2 _ _ s3=>.of (s3 _ _ q)⟩
 |scr ns=>
  cases h
  obtain⟨a,rfl,q⟩:=r.one λ_ h=>by cases h
  exact⟨a,_,rfl,Rps.ints ns,λF2 H2 s1 s2 _=>s2.seq (s1.seq q)⟩
 |_=>cases h
def gIt (g:EnvD->Option D):EnvD->Option #[3]:=λρ=>(g ρ).bind itL
theorem zV (hbk:HbOk B hb)(h:DQ X B hb e g):DI X B hb tg e (gIt g) :=
 kc (ze0 h) λσ H R ⟨F,ρ,ds,r,hg,k⟩=>by
  unfold gIt at hg
  cases q:g ρ with
  |none=>rw[q] at hg;cases hg
  |some d=>
   rw[q] at hg
   refine⟨F,ρ,d,r,q,λv F1 H1 e1 p1=>?_⟩
   obtain⟨a,vs,rfl,t,sq⟩:=ua p1 hg
   have r1:=r.ext e1
   refine⟨a,rfl,⟨vs,sq F1 H1 (Same.refl _) e1.fh (hbk.1 H1 r1.ex.hh)⟩,k _ F1 H1 e1 λF2 H2 s1 s2 s3 i=>⟨λhi=>?_,λhi=>?_⟩⟩
   ·have hq:=sq F2 H2 s1 s2 s3
    have hiv:i < vs.length:=by rw[<-t.length];exact hi
    have hv:vs[i]?=some vs[i]:=List.getElem?_eq_getElem hiv
    refine⟨⟨vs,_,hq,hv⟩,λx H3 hy=>?_⟩
    obtain⟨rfl,hy⟩:=hy
    obtain⟨d',hd,rd⟩:=t.get' (hy vs hq)
    exact⟨F2,d',.refl s2,hd,rd.mono s1⟩
   ·exact⟨vs,sq F2 H2 s1 s2 s3,by rw[hi,t.length];exact Nat.le_refl _⟩
def lQs (K:KW)(B:Bs)(hb:Hp->Hp)(g:EnvD->Option #[3]):TA:=λσ H Q=>
 ∃F ρ ds,Rep K B F σ H ρ/\g ρ=some ds/\∀vs F' H',Ext F H F' H'->Paired (λd v=>Rq K F' (hb H') d v) ds vs->Q vs H'
def DQs (X:Cx)(B:Bs)(hb:Hp->Hp)(es:List Expr)(g:EnvD->Option #[3]):Prop:=PA X es (lQs X.kw B hb g)
theorem Zz:DQs X B hb [] gNil:=yK yr λσ H Q ⟨F,ρ,ds,r,hg,k⟩=>by cases hg;exact k [] F H (.refl r.fh) .nil
theorem uW (hbk:HbOk B hb)(ha:DQ X B hb e g)(hr:DQs X B hb es gi)(hs:starEach (e::es) X.env=(false,eval e X.env)::starEach es X.env:=by rfl):DQs X B hb (e::es) (gCons' g gi) :=
 yK (zW ha hr hs) λσ H Q ⟨F,ρ,ds,r,hg,k⟩=>by
  obtain⟨d,dr,q1,q2,q3⟩:=bind2 hg
  cases q3
  exact⟨F,ρ,d,r,q1,λv F1 H1 e1 p1=>⟨F1,ρ,dr,r.ext e1,q2,λvs F2 H2 e2 p2=>k _ F2 H2 (e1.trans e2) (.cons (p1.mono e2.ff (hbk.2 _ _ e2.hh)) p2)⟩⟩
def enumD:Nat->List D->List D
 |_,[]=>[]
 |n,d::ds=>.tup [.int n,d]::enumD (n+1) ds
theorem Zv:∀(n:Nat) (ds:List D),(enumD n ds).length=ds.length
 |_,[]=>rfl
 |n,_::ds=>by simp[enumD,Zv (n+1) ds]
theorem QB:∀(n:Nat) (ds:List D) (i:Nat) (d:D),ds[i]?=some d->(enumD n ds)[i]?=some (.tup [.int ((n+i:Nat):Int),d])
 |_,[],_,_,h=>by simp at h
 |n,x::ds,0,d,h=>by simp at h;subst h;simp[enumD]
 |n,x::ds,i+1,d,h=>by
  have:=QB (n+1) ds i d (by simpa using h)
  simp only[enumD,List.getElem?_cons_succ,this]
  congr 5
  omega
def gEn (gs:EnvD->Option #[3]):EnvD->Option #[3]:=λρ=>(gs ρ).bind λxs=>match xs with
 | [d]=>(itL d).map (enumD 0)
 |_=>none
variable {elts:List Expr}{tk:Nat}{tpos:Pos}
theorem YO (hbk:HbOk B hb)(hg:Gl X "enumerate") (hm:X.mg "enumerate" = none) (ha:DQs X B hb [a] gi) (hs:starEach [a] X.env=[(false,eval a X.env)]:=by rfl) :
  DI X B hb (.Tuple elts tk tpos) (.Call (.Name "enumerate" p) [a] [] pos) (gEn gi) :=
 kc (Rr hg hm ha hs) λσ H R ⟨F,ρ,ds,r,hg,k⟩=>by
  unfold gEn at hg
  cases q:gi ρ with
  |none=>rw[q] at hg;cases hg
  |some xs=>
   rw[q] at hg
   refine⟨F,ρ,xs,r,q,λvs F1 H1 e1 p1=>?_⟩
   match xs,hg,p1 with
   | [d],hg,p1=>
    obtain⟨v,rfl,rv⟩:=pair1 p1
    have hg:(itL d).map (enumD 0)=some ds:=hg
    cases q2:itL d with
    |none=>rw[q2] at hg;cases hg
    |some es=>
     rw[q2] at hg
     cases hg
     obtain⟨a,us,rfl,t,sq⟩:=ua rv q2
     have r1:=r.ext e1
     refine⟨a,rfl,⟨us,sq F1 H1 (Same.refl _) e1.fh (hbk.1 H1 r1.ex.hh)⟩,k _ F1 H1 e1 λF2 H2 s1 s2 s3 i=>⟨λhi=>?_,λhi=>?_⟩⟩
     ·rw[Zv] at hi
      have hq:=sq F2 H2 s1 s2 s3
      have hiv:i < us.length:=by rw[<-t.length];exact hi
      have hv:us[i]?=some us[i]:=List.getElem?_eq_getElem hiv
      refine⟨⟨us,_,hq,hv⟩,λx H3 hy=>?_⟩
      obtain⟨T,w,nT,rfl,rfl,hy⟩:=hy
      obtain⟨d',hd,rd⟩:=t.get' (hy us hq)
      refine⟨upd F2 T (.tup [.int i,w]),_,.newF s2 nT,QB 0 es i d' hd,⟨T,_,rfl,zy,_,_,rfl,?_,_,_,rfl,(rd.mono s1).mono (ye (s2.free nT)),rfl⟩⟩
      show V.int i=V.int ((0+i:Nat):Int)
      rw[Nat.zero_add]
     ·exact⟨us,sq F2 H2 s1 s2 s3,by rw[hi,Zv,t.length];exact Nat.le_refl _⟩
def rngD (lo:Int):Nat->List D
 |0=>[]
 |n+1=>.int lo::rngD (lo+1) n
theorem ZV:∀(lo:Int) (n:Nat),(rngD lo n).length=n
 |_,0=>rfl
 |lo,n+1=>by simp[rngD,ZV (lo+1) n]
theorem Jx:∀(lo:Int) (n i:Nat),i < n->(rngD lo n)[i]?=some (.int (lo+i))
 |_,0,_,h=>by omega
 |lo,n+1,0,_=>by simp[rngD]
 |lo,n+1,i+1,h=>by
  have:=Jx (lo+1) n i #[1]
  simp only[rngD,List.getElem?_cons_succ,this]
  congr 2
  omega
def BIG:Int:=1000000000000
def gR1 (gs:EnvD->Option #[3]):EnvD->Option #[3]:=λρ=>(gs ρ).bind λxs=>match xs with
 | [.int j]=>if -BIG<=j/\j<=BIG then some (rngD 0 j.toNat) else none
 |_=>none
def gR2 (gs:EnvD->Option #[3]):EnvD->Option #[3]:=λρ=>(gs ρ).bind λxs=>match xs with
 | [.int i,.int j]=>if (-BIG<=i/\i<=BIG)/\(-BIG<=j/\j<=BIG) then some (rngD i (j - i).toNat) else none
 |_=>none
theorem Q6 {K:KW}{Hb F:Hp}(lo:Int)(n:Nat):Jok K Hb (Itr lo n) F (rngD lo n):=λF2 H2 s1 s2 s3 i=>⟨λhi=>by
 rw[ZV] at hi
 refine⟨hi,λx H3 hy=>?_⟩
 obtain⟨rfl,rfl⟩:=hy
 exact⟨F2,_,.refl s2,Jx lo n i hi,rfl⟩,λhi=>by rw[ZV] at hi;exact Nat.le_of_eq hi.symm⟩
theorem WP (hg:Gl X "range") (hm:X.mg "range" = none) (ha:DRs X B [a] gi) (hs:starEach [a] X.env=[(false,eval a X.env)]:=by rfl):DI X B hb tg (.Call (.Name "range" p) [a] [] pos) (gR1 gi) :=
 kc (zdy hg hm ha hs) λσ H R ⟨F,ρ,ds,r,hg,k⟩=>by
  unfold gR1 at hg
  cases q:gi ρ with
  |none=>rw[q] at hg;cases hg
  |some xs=>
   rw[q] at hg
   refine⟨F,ρ,xs,r,q,λvs F1 H1 e1 p1=>?_⟩
   match xs,hg,p1 with
   | [.int j],hg,p1=>
    obtain⟨v,rfl,rv⟩:=pair1 p1
    cases rv.int
    have hg:(if -BIG<=j/\j<=BIG then some (rngD 0 j.toNat) else none)=some ds:=hg
    split at hg
    ·rename_i hc
     cases hg
     unfold BIG at hc
     exact⟨j,rfl,by omega,by omega,k _ F1 H1 e1 (Q6 0 _)⟩
    ·cases hg
theorem J5 (hg:Gl X "range") (hm:X.mg "range" = none) (ha:DRs X B [a,b] gi) (hs:starEach [a,b] X.env=[(false,eval a X.env),(false,eval b X.env)]:=by rfl) (hs2:starEach [b] X.env=[(false,eval b X.env)]:=by rfl):DI X B hb tg (.Call (.Name "range" p) [a,b] [] pos) (gR2 gi) :=
 kc (zg3 hg hm ha hs hs2) λσ H R ⟨F,ρ,ds,r,hg,k⟩=>by
  unfold gR2 at hg
  cases q:gi ρ with
  |none=>rw[q] at hg;cases hg
  |some xs=>
   rw[q] at hg
   refine⟨F,ρ,xs,r,q,λvs F1 H1 e1 p1=>?_⟩
   match xs,hg,p1 with
   | [.int i,.int j],hg,p1=>
    obtain⟨v,v',rfl,rv,rv'⟩:=pair2 p1
    cases rv.int
    cases rv'.int
    have hg:(if (-BIG<=i/\i<=BIG)/\(-BIG<=j/\j<=BIG) then some (rngD i (j - i).toNat) else none)=some ds:=hg
    split at hg
    ·rename_i hc
     cases hg
     unfold BIG at hc
     exact⟨i,j,rfl,⟨by omega,by omega,by omega,by omega⟩,k _ F1 H1 e1 (Q6 i _)⟩
    ·cases hg
def forD (t:Tgt)(gb:SD):List D->EnvD->Option Fl
 | [],ρ=>some (.next ρ)
 |d::ds,ρ=>(asgD t d ρ).bind λρ1=>(gb ρ1).bind λfl=>match fl with
  |.next ρ2=>forD t gb ds ρ2
  |.cont ρ2=>forD t gb ds ρ2
  |.brk ρ2=>some (.next ρ2)
  |.ret o=>some (.ret o)
def sFor (t:Tgt)(gi:EnvD->Option #[3])(gb:SD):SD:=λρ=>(gi ρ).bind λds=>forD t gb ds ρ
theorem zU {body:List Stmt}{t:Tgt}(hp:PassesOwn #[9] X.A X.env X.xe)(hc:X.calm=true)(hi:DI X B (λ_=>B.H0) tg iter gi)(hg:PG X tg (tgT X.kw t))(hb:DSs X B body gbd)
  (hs:∀x,foldedSetIterable iter X.env x=pure x:=by intro _;rfl):DS X B (.For tg iter body [] pos) (sFor t gi gbd) :=
 zD (zg8 hp hc hi hg hb hs) λE σ H ⟨F,ρ,fl,r,hg,k⟩=>by
  unfold sFor at hg
  cases q:gi ρ with
  |none=>rw[q] at hg;cases hg
  |some ds=>
   rw[q] at hg
   have hg:forD t gbd ds ρ=some fl:=hg
   refine⟨F,ρ,ds,r,q,λJ F1 H1 e1 jok=>?_⟩
   refine⟨λi m σ H=>m=ds.length - i/\i<=ds.length/\∃F2 ρ2,Rep X.kw B F2 σ H ρ2/\Same F1 F2/\forD t gbd (ds.drop i) ρ2=some fl,⟨ds.length,rfl,Nat.zero_le _,F1,ρ,r.ext e1,Same.refl _,hg⟩,?_⟩
   rintro i m σ2 H2 ⟨rfl,hi,F2,ρ2,r2,s2,h2⟩
   obtain⟨j1,j2⟩:=jok F2 H2 s2 r2.fh r2.ex.hh i
   by_cases hlt:i < ds.length
   ·obtain⟨go,yl⟩:=j1 hlt
    refine .inr ⟨go,λσ' H'=>∃F3 ρ3,Rep X.kw B F3 σ' H' ρ3/\Same F1 F3/\forD t gbd (ds.drop (i+1)) ρ3=some fl,λσ' H' ⟨F3,ρ3,r3,s3,h3⟩=>⟨ds.length - (i+1),by omega,rfl,hlt,F3,ρ3,r3,s3,h3⟩,λx H3 hy=>?_⟩
    obtain⟨F3,d,e3,hd,rd⟩:=yl x H3 hy
    have hdd:ds.drop i=d::ds.drop (i+1):=by
     rw[List.drop_eq_getElem_cons hlt]
     congr 1
     rw[List.getElem?_eq_getElem hlt] at hd
     exact Option.some.inj hd
    rw[hdd] at h2
    have h2:((asgD t d ρ2).bind λρ1=>(gbd ρ1).bind λfl=>match fl with
     |.next ρ2=>forD t gbd (ds.drop (i+1)) ρ2
     |.cont ρ2=>forD t gbd (ds.drop (i+1)) ρ2
     |.brk ρ2=>some (.next ρ2)
     |.ret o=>some (.ret o))=some fl:=h2
    cases q1:asgD t d ρ2 with
    |none=>rw[q1] at h2;cases h2
    |some ρ3=>
     rw[q1] at h2
     refine jU (r2.ext e3) rd q1 λσ' r4 _=>?_
     cases q4:gbd ρ3 with
     |none=>rw[show (some ρ3).bind _=(gbd ρ3).bind _ from rfl,q4] at h2;cases h2
     |some f1=>
      rw[show (some ρ3).bind _=(gbd ρ3).bind _ from rfl,q4] at h2
      refine⟨F3,ρ3,f1,r4,q4,?_⟩
      cases f1 with
      |next ρ5=>exact λσ5 F5 H5 r5 s5=>⟨F5,ρ5,r5,(s2.trans e3.ff).trans s5,h2⟩
      |cont ρ5=>exact λσ5 F5 H5 r5 s5=>⟨F5,ρ5,r5,(s2.trans e3.ff).trans s5,h2⟩
      |brk ρ5=>cases h2;exact λσ5 F5 H5 r5 s5=>k σ5 F5 H5 r5 (e1.ff.trans ((s2.trans e3.ff).trans s5))
      |ret o=>cases h2;exact k
   ·have hi':i=ds.length:=by omega
    have hdd:ds.drop i=[]:=by rw[hi',List.drop_length]
    rw[hdd] at h2
    cases h2
    exact .inl ⟨j2 hi',k σ2 F2 H2 r2 (e1.ff.trans s2)⟩
def capO:Option (Option En)->Option En
 |some (some (.val d))=>some (.val d)
 |some (some (.acc ds))=>some (.bor ds)
 |some (some (.bor ds))=>some (.bor ds)
 |some (some (.dct _ kvs))=>some (.dbo kvs)
 |some (some (.dbo kvs))=>some (.dbo kvs)
 |_=>none
def capE (ρ:EnvD)(cap:List (Str×Nat)):EnvD:=cap.map λp=>capO ρ[p.2]?
def compD (t:Tgt)(tc:EnvD->Option Bool)(ge:EnvD->Option D)(ρ0:EnvD):List D->Option #[3]
 | []=>some []
 |d::ds=>(asgD t d ρ0).bind λρ1=>(tc ρ1).bind λb=>if b then (ge ρ1).bind λy=>(compD t tc ge ρ0 ds).map (y::·) else compD t tc ge ρ0 ds
def gComp (own:List Str)(cap:List (Str×Nat))(t:Tgt)(tc:EnvD->Option Bool)(ge:EnvD->Option D)(gi:EnvD->Option #[3]):EnvD->Option #[3]:=λρ=>
 (gi ρ).bind λds=>if ds.length<=TOP then compD t tc ge #[21] ds else none
def tYes:EnvD->Option Bool:=λ_=>some true
theorem Rm {K:KW}{B:Bs}{σ:St}{H:Hp}{Q:Bool->Hp->Prop}(h:lT K B tYes σ H Q):tTrue σ H Q:=by
 obtain⟨F,ρ,b,r,hg,k⟩:=h
 cases hg
 exact k F H (.refl r.fh)
theorem GF {X:Cx}{ifs:List Expr}{t t':TT}(h:PIfs X ifs t)(k:∀σ H Q,t' σ H Q->t σ H Q):PIfs X ifs t':=λpins s σ H Q I q=>h pins s σ H Q I (k σ H Q q)
def DIfs (X:Cx)(B:Bs)(ifs:List Expr)(g:EnvD->Option Bool):Prop:=PIfs X ifs (lT X.kw B g)
theorem jB:DIfs X B [] tYes:=GF RD λσ H Q h=>Rm h
theorem Ki {tc:EnvD->Option Bool}(h:DT X B c tc):DIfs X B [c] tc:=zac h
theorem YQ {K:KW}{B:Bs}{F F1 H H1:Hp}{σ σ1:St}{ρ:EnvD}{own:List Str}{cap:List (Str×Nat)}(r:Rep K B F σ H ρ)(e:Ext F H F1 H1){F2 H2:Hp}(e2:Ext F1 H1 F2 H2)(hl:σ1.length=own.length) :
  Rep K ⟨F1,H1⟩ F2 (σ1++cap.map λp=>(σ[p.2]?).getD none) H2 #[21]:=by
 have noown:∀i y,#[21][i]?=some (some y)->∃p,cap[i - own.length]?=some p/\own.length<=i/\((∃d,y=.val d/\ρ[p.2]?=some (some (.val d)))∨(∃ds,y=.bor ds/\ρ[p.2]?=some (some (.acc ds)))∨(∃ds,y=.bor ds/\ρ[p.2]?=some (some (.bor ds)))∨(∃kvs,y=.dbo kvs/\∃oa,ρ[p.2]?=some (some (.dct oa kvs)))∨∃kvs,y=.dbo kvs/\ρ[p.2]?=some (some (.dbo kvs))):=by
  intro i y h
  by_cases hi:i < own.length
  ·rw[List.getElem?_append_left (by simpa using hi),List.getElem?_replicate,if_pos hi] at h
   cases h
  ·rw[List.getElem?_append_right (by simpa using hi),List.length_replicate] at h
   unfold capE at h
   rw[List.getElem?_map] at h
   cases q:cap[i - own.length]? with
   |none=>rw[q] at h;cases h
   |some p=>
    rw[q] at h
    replace h:capO ρ[p.2]?=some y:=Option.some.inj h
    refine⟨p,rfl,by omega,?_⟩
    unfold capO at h
    split at h
    ·rename_i d q2;cases h;exact .inl ⟨d,rfl,q2⟩
    ·rename_i ds q2;cases h;exact .inr (.inl ⟨ds,rfl,q2⟩)
    ·rename_i ds q2;cases h;exact .inr (.inr (.inl ⟨ds,rfl,q2⟩))
    ·rename_i oa ds q2;cases h;exact .inr (.inr (.inr (.inl ⟨ds,rfl,oa,q2⟩)))
    ·rename_i ds q2;cases h;exact .inr (.inr (.inr (.inr ⟨ds,rfl,q2⟩)))
    ·cases h
 refine⟨e2,by simp[capE,hl],λi y h=>?_,λi j y z v w h1 h2 _ _ _ a ha _=>?_⟩
 ·obtain⟨p,hp,hi,hy⟩:=noown i y h
  have slot:∀v,σ[p.2]?=some (some v)->(σ1++cap.map λp=>(σ[p.2]?).getD none)[i]?=some (some v):=λv hv=>by
   rw[List.getElem?_append_right (by rw[hl];exact hi),hl,List.getElem?_map,hp]
   show some ((σ[p.2]?).getD none)=_
   rw[hv];rfl
  rcases hy with⟨d,rfl,q⟩ | ⟨ds,rfl,q⟩ | ⟨ds,rfl,q⟩ | ⟨ds,rfl,oa,q⟩ | ⟨ds,rfl,q⟩
  ·obtain⟨v,hv,h2⟩:=r.ents _ _ q
   exact⟨v,slot v hv,Rp.mono (e.ff.trans e2.ff) h2⟩
  ·obtain⟨v,hv,a,vs,e1,g1,g2,g3,g4⟩:=r.ents _ _ q
   exact⟨v,slot v hv,a,vs,e1,e.hh _ _ g1,g4.mono (e.ff.trans e2.ff)⟩
  ·obtain⟨v,hv,a,vs,e1,g1,g4⟩:=r.ents _ _ q
   exact⟨v,slot v hv,a,vs,e1,e.hh _ _ (r.ex.hh _ _ g1),g4.mono (e.ff.trans e2.ff)⟩
  ·obtain⟨v,hv,a,ob,vs,e1,g1,g2,g3,g4,g5⟩:=r.ents _ _ q
   exact⟨v,slot v hv,a,ob,vs,e1,e.hh _ _ g1,g4.mono (e.ff.trans e2.ff)⟩
  ·obtain⟨v,hv,a,ob,vs,e1,g1,g4⟩:=r.ents _ _ q
   exact⟨v,slot v hv,a,ob,vs,e1,e.hh _ _ (r.ex.hh _ _ g1),g4.mono (e.ff.trans e2.ff)⟩
 ·obtain⟨p,_,_,hy⟩:=noown i y h1
  rcases hy with⟨d,rfl,q⟩ | ⟨ds,rfl,q⟩ | ⟨ds,rfl,q⟩ | ⟨ds,rfl,oa,q⟩ | ⟨ds,rfl,q⟩<;>cases ha
theorem qg {elt:Expr}{ifs:List Expr}{scope:Scope}{own:List Str}{cap:List (Str×Nat)}{t:Tgt}{tc:EnvD->Option Bool}{ge:EnvD->Option D}(hc:X.calm=true)(S:CompScope X scope own cap)(hi:DI X B (λH=>H) tg iter gi)(ht:∀i∈t.slots,i < own.length)
  (hin:∀(B':Bs) C s₀ H₀ fp pn,PG #[27] tg (tgT X.kw t)/\DIfs #[27] B' ifs tc/\DE #[27] B' elt ge)
  (hs:∀x,foldedSetIterable iter X.env x=pure x:=by intro _;rfl) :
  DA X B #[28] (gComp own cap t tc ge gi):=by
 refine zt (K7 (tc:=λσ H Q=>∃B',lT X.kw B' tc σ H Q) (te:=λσ H Q=>∃B',lG X.kw B' (pE X.kw) ge σ H Q) hc S hi (λC s₀ H₀ fp pn=>⟨(hin ⟨H₀,H₀⟩ C s₀ H₀ fp pn).1,λpins s σ H Q I ⟨B',q⟩=>(hin B' C s₀ H₀ fp pn).2.1 pins s σ H Q I q,λpins s σ H Q I ⟨B',q⟩=>(hin B' C s₀ H₀ fp pn).2.2 pins s σ H Q I q⟩) hs) ?_
 intro σ H Q ⟨F,ρ,out,r,hg,k⟩
 unfold gComp at hg
 cases q:gi ρ with
 |none=>rw[q] at hg;cases hg
 |some ds=>
  rw[q] at hg
  have hg:(if ds.length<=TOP then compD t tc ge #[21] ds else none)=some out:=hg
  split at hg
  ·rename_i htop
   refine⟨F,ρ,ds,r,q,λJ F1 H1 e1 jok=>?_⟩
   refine⟨λi m ys H2=>m=ds.length - i/\i<=ds.length/\∃F2 o1 o2,Ext F1 H1 F2 H2/\Rps X.kw F2 o1 ys/\o1.length<=i/\compD t tc ge #[21] (ds.drop i)=some o2/\out=o1++o2,
    ⟨ds.length,rfl,Nat.zero_le _,F1,[],out,.refl e1.fh,rfl,Nat.le_refl _,hg,rfl⟩,?_⟩
   rintro i m ys H2 ⟨rfl,hi,F2,o1,o2,e2,ry,hl1,h2,rfl⟩
   refine⟨yk (by rw[<-ry.length];omega),?_⟩
   obtain⟨j1,j2⟩:=jok F2 H2 e2.ff e2.fh e2.hh i
   by_cases hlt:i < ds.length
   ·obtain⟨go,yl⟩:=j1 hlt
    refine .inr ⟨go,λys' H'=>∃F3 p1 p2,Ext F1 H1 F3 H'/\Rps X.kw F3 p1 ys'/\p1.length<=i+1/\compD t tc ge #[21] (ds.drop (i+1))=some p2/\o1++o2=p1++p2,λys' H' ⟨F3,p1,p2,e3,r3,l3,h3,eo⟩=>⟨ds.length - (i+1),by omega,rfl,hlt,F3,p1,p2,e3,r3,l3,h3,eo⟩,λx H3 hy σ1 hσ=>?_⟩
    obtain⟨F3,d,e3,hd,rd⟩:=yl x H3 hy
    have hdd:ds.drop i=d::ds.drop (i+1):=by
     rw[List.drop_eq_getElem_cons hlt]
     congr 1
     rw[List.getElem?_eq_getElem hlt] at hd
     exact Option.some.inj hd
    rw[hdd] at h2
    simp only[compD] at h2
    cases q1:asgD t d #[21] with
    |none=>rw[q1] at h2;cases h2
    |some ρ1=>
     rw[q1] at h2
     have e13:=e2.trans e3
     refine jU (YQ (own:=own) (cap:=cap) r e1 e13 hσ) rd q1 λσ' r4 so=>⟨?_,?_⟩
     ·obtain⟨σ1',l1,e4⟩:=so.pre (σ1:=σ1) rfl (λj hj=>by rw[hσ];exact ht j hj)
      exact⟨σ1',by rw[l1,hσ],e4⟩
     ·have h2:((tc ρ1).bind λb=>if b then (ge ρ1).bind λy=>(compD t tc ge #[21] (ds.drop (i+1))).map (y::·) else compD t tc ge #[21] (ds.drop (i+1)))=some o2:=h2
      cases q2:tc ρ1 with
      |none=>rw[q2] at h2;cases h2
      |some bb=>
       rw[q2] at h2
       refine⟨⟨F1,H1⟩,F3,ρ1,bb,r4,q2,λF5 H5 e5=>?_⟩
       cases bb with
       |false=>exact iteF ⟨F5,o1,o2,e13.trans e5,ry.mono (e3.ff.trans e5.ff),by omega,h2,rfl⟩
       |true=>
        have h2:((ge ρ1).bind λy=>(compD t tc ge #[21] (ds.drop (i+1))).map (y::·))=some o2:=h2
        cases q3:ge ρ1 with
        |none=>rw[q3] at h2;cases h2
        |some y=>
         rw[q3] at h2
         have h2:(compD t tc ge #[21] (ds.drop (i+1))).map (y::·)=some o2:=h2
         cases q4:compD t tc ge #[21] (ds.drop (i+1)) with
         |none=>rw[q4] at h2;cases h2
         |some p2=>
          rw[q4] at h2
          cases h2
          refine iteT ⟨⟨F1,H1⟩,F5,ρ1,y,r4.ext e5,q3,λv F6 H6 e6 p6=>?_⟩
          exact⟨F6,o1++[y],p2,e13.trans (e5.trans e6),(ry.mono (e3.ff.trans (e5.ff.trans e6.ff))).snoc p6,by simp;omega,rfl,by simp⟩
   ·have hi':i=ds.length:=by omega
    have hdd:ds.drop i=[]:=by rw[hi',List.drop_length]
    rw[hdd] at h2
    cases h2
    refine .inl ⟨j2 hi',λD hD=>?_⟩
    have e:=e1.trans e2
    exact k _ F2 _ (e.trans (.new e.fh hD)) ⟨D,ys,rfl,e.hh.free hD,zy,e.fh.free hD,by simpa using ry⟩
  ·cases hg
end
def stE (N:List Str)(xs:List (Option En)):EnvD:=xs++List.replicate (N.length - xs.length) none
def outO:Option Fl->Option En
 |some (.next _)=>some (.val .non)
 |some (.ret o)=>some o
 |_=>none
def mir (N:List Str)(g:SD):List En->Option En:=λxs=>outO (g (stE N (xs.map some)))
section
variable {P:Program}{w:World}{K:PySem.W.Frag}{mg:Str->Option Value}{base:Heap}
theorem jJ {α β:Type}{R:α->β->Prop}:∀ {l:List α} {r:List β} {i:Nat} {x:α},Paired R l r->l[i]?=some x->∃y,r[i]?=some y/\R x y
 |_,_,_,_,.nil,e=>by simp at e
 |_,_,0,_,.cons r _,e=>by simp at e;subst e;exact⟨_,rfl,r⟩
 |_,_,i+1,x,.cons _ t,e=>by
  obtain⟨u,h1,h2⟩:=jJ (i:=i) t (by simpa using e)
  exact⟨u,by simpa using h1,h2⟩
theorem ur {F H:Hp}{N ps:List Str}{xs:List En}{vs:List V}(fh:Same F H)(hp:Paired (λx v=>ArgE ⟨K,w⟩ F H x v) xs vs):Rep ⟨K,w⟩ ⟨F,H⟩ F (L2.start N vs) H (stE N (xs.map some)):=by
 have hl:=vI hp
 have at':∀(i:Nat) y,(stE N (xs.map some))[i]?=some (some y)->xs[i]?=some y:=λi y h=>by
  unfold stE at h
  by_cases hi:i < xs.length
  ·rw[List.getElem?_append_left (by simpa using hi),List.getElem?_map] at h
   cases q:xs[i]? with
   |none=>rw[q] at h;cases h
   |some z=>rw[q] at h;cases h;rfl
  ·rw[List.getElem?_append_right (by simpa using hi),List.getElem?_replicate] at h
   split at h<;>cases h
 refine⟨.refl fh,?_,λi y h=>?_,λi j y z v w h1 h2 _ _ _ a ha _=>?_⟩
 ·unfold L2.start stE
  simp[hl]
 ·have hx:=at' i y h
  obtain⟨v,hv,r⟩:=jJ hp hx
  refine⟨v,?_,?_⟩
  ·unfold L2.start
   rw[List.getElem?_append_left (by simpa using (List.getElem?_eq_some_iff.mp hv).1),List.getElem?_map,hv];rfl
  ·cases y with
   |val d=>exact r
   |bor ds=>exact r
   |acc ds=>exact r.elim
   |oac a dx C fs ds=>exact r.elim
   |obw C fs ds=>exact r.elim
   |tre t=>exact r.elim
   |dct oa kvs=>exact r.elim
   |dbo kvs=>exact r
   |exn a=>exact r
 ·have hx:=at' i y h1
  obtain⟨u,_,r⟩:=jJ hp hx
  cases y with
  |val d=>cases ha
  |bor ds=>cases ha
  |acc ds=>exact r.elim
  |oac a dx C fs ds=>exact r.elim
  |obw C fs ds=>exact r.elim
  |tre t=>exact r.elim
  |dct oa kvs=>exact r.elim
  |dbo kvs=>cases ha
  |exn a=>cases ha
theorem zv {x qual:Str}{st:Stmt}{f:Addr}{fd:FuncData}{N ps:List Str}{k:Nat}{g:SD}(F:Fun K x qual st f fd)(S:FnScope N ps (zd st))
  (hb:∀(cdv:Value) (A:Around) (outer:List Env) (s:Shared) (H:Hp) (E:XK) (B:Bs),Room k (A.deeper (envOfC qual (zd st) s.heap.objs.size f cdv)) ->
   DSs (cxOf CX0 P w K mg base N qual (zd st) f cdv A outer s H E).nox B (zk st) g) :
  FnOk P w K mg base CX0 (k+1) f fd ps (pSp ⟨K,w⟩ ps.length (len? ps.length (mir N g))):=by
 refine F.ok S (λvs H Q E h=>?_) (λcdv A outer s H vs Q E hr h=>?_)
 ·obtain⟨F,xs,o,_,hl,hp,_⟩:=h
  rw[<-vI hp];exact hl
 ·obtain⟨F0,xs,o,fh,hl,hp,hm,k⟩:=h
  refine⟨_,hb cdv A outer s H E ⟨F0,H⟩ hr,?_⟩
  have hm:mir N g xs=some o:=by
   unfold len? at hm
   rw[if_pos hl] at hm
   exact hm
  unfold mir at hm
  cases q:g (stE N (xs.map some)) with
  |none=>rw[q] at hm;cases hm
  |some fl=>
   rw[q] at hm
   refine⟨F0,_,fl,ur (ps:=ps) fh hp,q,?_⟩
   cases fl with
   |next ρ=>cases hm;exact λσ' F' H' r s=>k .non F' H' r.ex rfl
   |ret o'=>cases hm;exact λv F' H' e p=>k v F' H' e p
   |brk ρ=>cases hm
   |cont ρ=>cases hm
def outJ (x dx C:Addr):Option (Option En)->Option #[22]
 |some (some (.oac a d C' fs ds))=>if a=x/\d=dx/\C'=C then some (fs,ds) else none
 |_=>none
def outI (x dx C:Addr):Option Fl->Option #[22]
 |some (.next ρ)=>outJ x dx C ρ[0]?
 |_=>none
def mirI (C:Addr)(N:List Str)(g:SD)(x dx:Addr):List En->Option #[22]:=λxs=>outI x dx C (g (stE N (some (.oac x dx C [] [])::xs.map some)))
theorem jh {x qual:Str}{st:Stmt}{f C:Addr}{fd:FuncData}{N ps:List Str}{k n:Nat}{g:SD}(F:Fun K x qual st f fd)(S:FnScope N ps (zd st))(hn:ps.length=n+1)
  (hb:∀(cdv:Value) (A:Around) (outer:List Env) (s:Shared) (H:Hp) (E:XK) (B:Bs),Room k (A.deeper (envOfC qual (zd st) s.heap.objs.size f cdv)) ->
   DSs (cxOf CX0 P w K mg base N qual (zd st) f cdv A outer s H E).nox B (zk st) g) :
  FnOk P w K mg base CX0 (k+1) f fd ps (iSp ⟨K,w⟩ C n (mirI C N g)):=by
 refine F.ok S (λvs H Q E h=>?_) (λcdv A outer s H vs Q E hr h=>?_)
 ·obtain⟨F,H1,xs,a,dx,vs',fs,ds,rfl,_,_,_,_,_,hl,hp,_⟩:=h
  rw[List.length_cons,<-vI hp,hl,hn]
 ·obtain⟨F0,H1,xs,a,dx,vs',fs,ds,rfl,nx,ndx,nex,rfl,fh,hl,hp,hm,k⟩:=h
  refine⟨_,hb cdv A outer s _ E ⟨F0,H1⟩ hr,?_⟩
  have hx1:(upd H1 dx (.own a)) a=none:=by rw[zr (Ne.symm nex)];exact nx
  have sH:Same H1 (upd (upd H1 dx (.own a)) a (.ins C dx [])):=(ye ndx).trans (ye hx1)
  have r0:=ur (N:=N) (ps:=ps) fh hp
  have hla:=vI hp
  have R:Rep ⟨K,w⟩ ⟨F0,H1⟩ F0 (L2.start N (.ref a::vs')) (upd (upd H1 dx (.own a)) a (.ins C dx [])) (stE N (some (.oac a dx C [] [])::xs.map some)):=by
   have sl:∀i:Nat,(L2.start N (.ref a::vs'))[i+1]?=none∨∀v,(L2.start N (.ref a::vs'))[i+1]?=some (some v)->vs'[i]?=some v:=λi=>.inr λv h=>by
    unfold L2.start at h
    by_cases hi:i < vs'.length
    ·rw[List.getElem?_append_left (by simpa using hi),List.getElem?_map,List.getElem?_cons_succ] at h
     cases q:vs'[i]? with
     |none=>rw[q] at h;cases h
     |some z=>rw[q] at h;cases h;rfl
    ·rw[List.getElem?_append_right (by simpa using hi),List.getElem?_replicate] at h
     split at h<;>cases h
   have at':∀(i:Nat) y,(stE N (some (.oac a dx C [] [])::xs.map some))[i]?=some (some y)->(i=0/\y=.oac a dx C [] [])∨∃j,i=j+1/\xs[j]?=some y:=λi y h=>by
    unfold stE at h
    cases i with
    |zero=>simp at h;exact .inl ⟨rfl,h.symm⟩
    |succ j=>
     refine .inr ⟨j,rfl,?_⟩
     by_cases hi:j < xs.length
     ·rw[List.getElem?_append_left (by simpa using hi),List.getElem?_cons_succ,List.getElem?_map] at h
      cases q:xs[j]? with
      |none=>rw[q] at h;cases h
      |some z=>rw[q] at h;cases h;rfl
     ·rw[List.getElem?_append_right (by simpa using hi),List.getElem?_replicate] at h
      split at h<;>cases h
   refine⟨⟨Same.refl _,sH,fh.trans sH,λ_ h=>.inl h⟩,?_,λi y h=>?_,λi j y z v w h1 h2 _ _ hne b hb hc=>?_⟩
   ·unfold L2.start stE
    simp[hla]
   ·rcases at' i y h with⟨rfl,rfl⟩ | ⟨j,rfl,hx⟩
    ·exact⟨.ref a,by simp[L2.start],[],rfl,zy,rfl,fh.free nx,nx,rfl,by rw[zr nex];exact zy,fh.free ndx,ndx⟩
    ·obtain⟨v,hv,r⟩:=jJ hp hx
     refine⟨v,?_,?_⟩
     ·unfold L2.start
      rw[List.getElem?_append_left (by simpa using (List.getElem?_eq_some_iff.mp hv).1),List.getElem?_map,List.getElem?_cons_succ,hv];rfl
     ·cases y with
      |val d=>exact r
      |bor ds=>exact r
      |acc ds=>exact r.elim
      |oac a dx C fs ds=>exact r.elim
      |obw C fs ds=>exact r.elim
      |tre t=>exact r.elim
      |dct oa kvs=>exact r.elim
      |dbo kvs=>exact r
      |exn a=>exact r
   ·have own0:∀(i:Nat) y v b,(stE N (some (.oac a dx C [] [])::xs.map some))[i]?=some (some y)->b∈feetE (upd (upd H1 dx (.own a)) a (.ins C dx [])) y v->i=0:=λi y v b h o=>by
     rcases at' i y h with⟨rfl,_⟩ | ⟨j,rfl,hx⟩
     ·rfl
     ·obtain⟨u,_,r⟩:=jJ hp hx
      cases y with
      |val d=>cases o
      |bor ds=>cases o
      |acc ds=>exact r.elim
      |oac a dx C fs ds=>exact r.elim
      |obw C fs ds=>exact r.elim
      |tre t=>exact r.elim
      |dct oa kvs=>exact r.elim
      |dbo kvs=>cases o
      |exn a=>cases o
    exact hne (by rw[own0 i y v b h1 hb,own0 j z w b h2 hc])
  unfold mirI at hm
  cases q:g (stE N (some (.oac a dx C [] [])::xs.map some)) with
  |none=>rw[q] at hm;cases hm
  |some fl=>
   rw[q] at hm
   refine⟨F0,_,fl,R,q,?_⟩
   cases fl with
   |next ρ=>
    refine λσ' F' H' r s=>?_
    replace hm:outJ a dx C ρ[0]?=some (fs,ds):=hm
    unfold outJ at hm
    split at hm
    ·rename_i a' d' C' fs' ds' q0
     split at hm
     ·rename_i hc
      obtain⟨rfl,rfl,rfl⟩:=hc
      cases hm
      obtain⟨v,_,vs,rfl,h1,h2,h3,_,h5,d1,d2,_⟩:=r.ents 0 _ q0
      exact k F' H' vs r.ex h3 h1 h2 h5 ⟨d1,d2⟩
     ·cases hm
    ·cases hm
   |ret o'=>cases hm
   |brk ρ=>cases hm
   |cont ρ=>cases hm
end
section
variable {X:Cx}{B:Bs}{e a b c o:Expr}{es:List Expr}{pos p apos:Pos}{g:EnvD->Option D}{gxs:EnvD->Option (List En)}{x mm:Str}{C:Addr}{n k:Nat}{m:List En->Option En}
def fNeg:D->Option D
 |.int i=>some (.int (-i))
 |_=>none
def gNeg (g:EnvD->Option D):EnvD->Option D:=λρ=>(g ρ).bind fNeg
theorem vW (ha:DR X B a g):DE X B (.UnaryOp .USub a pos) (gNeg g) :=
 zt (zft Rf ha) λσ H Q ⟨F,ρ,d,r,hg,k⟩=>by
  unfold gNeg at hg
  cases q:g ρ with
  |none=>rw[q] at hg;cases hg
  |some y=>
   rw[q] at hg
   cases y with
   |int i=>cases hg;exact⟨F,ρ,_,r,q,λv F1 H1 e1 p1=>⟨i,p1.int,k _ F1 H1 e1 rfl⟩⟩
   |_=>cases hg
structure Fx (P:Program)(w:World)(K:PySem.W.Frag)(mg:Str->Option Value)(base:Heap)(x:Str)(k n:Nat)(m:List En->Option En):Prop where
 ex:∃f fd ps,FnOk P w K mg base CX0 k f fd ps (pSp ⟨K,w⟩ n (len? n m))/\mg x=some (.ref f)/\keepIn K (.ref f)=true/\Binds K fd ps []
structure Mx (P:Program)(w:World)(K:PySem.W.Frag)(mg:Str->Option Value)(base:Heap)(C:Addr)(x:Str)(k n:Nat)(m:List En->Option En):Prop where
 ex:∃f fd ps,FnOk P w K mg base CX0 k f fd ps (pSp ⟨K,w⟩ n (len? n m))/\Meth K C x f/\Binds K fd ps []
structure Kx (P:Program)(w:World)(K:PySem.W.Frag)(mg:Str->Option Value)(base:Heap)(C:Addr)(x:Str)(k n:Nat)(mi:List En->Option #[22]):Prop where
 ex:∃f fd ps mi',FnOk P w K mg base CX0 k f fd ps (iSp ⟨K,w⟩ C n mi')/\Mk K C f/\mg x=some (.ref C)/\Binds K fd ps []/\∀a dx xs,mi' a dx xs=mi xs
theorem zz (h:Fx X.prog X.w X.kw X.mg X.base x k n m)(hr:Room k X.A)(hg:Gl X x)(ha:DNs X B (e::es) gxs)(hdb:#[20]=false:=by decide +kernel)
  (he:starEach (e::es) X.env=(false,eval e X.env)::starEach es X.env:=by rfl) (hpl:#[24].any (·.1)=false:=by rfl):DE X B #[26] (gCall (len? n m) frzO gxs):=by
 obtain⟨f,fd,ps,F,hm,hk,hb⟩:=h.ex
 exact zbw F hr hg hm hk hb ha hdb he hpl
theorem yn (h:Fx X.prog X.w X.kw X.mg X.base x k n m)(hr:Room k X.A)(hg:Gl X x)(ha:DNs X B (e::es) gxs)(hdb:#[20]=false:=by decide +kernel)
  (he:starEach (e::es) X.env=(false,eval e X.env)::starEach es X.env:=by rfl) (hpl:#[24].any (·.1)=false:=by rfl):DA X B #[26] (gCall (len? n m) accO gxs):=by
 obtain⟨f,fd,ps,F,hm,hk,hb⟩:=h.ex
 exact Ux F hr hg hm hk hb ha hdb he hpl
theorem yH {pl:Sem Bool}(ho:DE X B o g)(cl:Cls X.kw C)(h:Mx X.prog X.w X.kw X.mg X.base C mm k n m)(hr:Room k X.A)(ha:DNs X B (e::es) gxs)
  (hst:starEach (e::es) X.env=(false,eval e X.env)::starEach es X.env:=by rfl) (hpl:#[24].any (·.1)=false:=by rfl)
  (ht:eval (.Call (.Attribute o mm apos) (e::es) [] pos) X.env=(do
   let ov <-eval o X.env
   standAt apos.atName
   let (f,first) <-holding [ov] (getMethod ov mm pl)
   callWith pos f first (backTo pos (starEach (e::es) X.env)) (backToKw pos (keywordEach [] X.env))):=by rfl) :
  DE X B (.Call (.Attribute o mm apos) (e::es) [] pos) (gMeth C mm (len? n m) frzO g gxs):=by
 obtain⟨f,fd,ps,F,hm,hb⟩:=h.ex
 exact zb3 ho cl hm F hr hb ha hst hpl ht
theorem zX {pl:Sem Bool}(ho:DE X B o g)(cl:Cls X.kw C)(h:Mx X.prog X.w X.kw X.mg X.base C mm k n m)(hr:Room k X.A)
  (ht:eval (.Call (.Attribute o mm apos) [] [] pos) X.env=(do
   let ov <-eval o X.env
   standAt apos.atName
   let (f,first) <-holding [ov] (getMethod ov mm pl)
   callWith pos f first (backTo pos (starEach [] X.env)) (backToKw pos (keywordEach [] X.env))):=by rfl) :
  DE X B (.Call (.Attribute o mm apos) [] [] pos) (gMeth C mm (len? n m) frzO g nNil):=by
 obtain⟨f,fd,ps,F,hm,hb⟩:=h.ex
 exact Uj ho cl hm F hr hb ht
theorem UK {pl:Sem Bool}(ho:DE X B o g)(cl:Cls X.kw C)(h:Mx X.prog X.w X.kw X.mg X.base C mm k n m)(hr:Room k X.A)
  (ht:eval (.Call (.Attribute o mm apos) [] [] pos) X.env=(do
   let ov <-eval o X.env
   standAt apos.atName
   let (f,first) <-holding [ov] (getMethod ov mm pl)
   callWith pos f first (backTo pos (starEach [] X.env)) (backToKw pos (keywordEach [] X.env))):=by rfl) :
  DA X B (.Call (.Attribute o mm apos) [] [] pos) (gMeth C mm (len? n m) accO g nNil):=by
 obtain⟨f,fd,ps,F,hm,hb⟩:=h.ex
 exact Ui ho cl hm F hr hb ht
theorem kK {mi:List En->Option #[22]}(h:Kx X.prog X.w X.kw X.mg X.base C x k n mi)(hr:Room (k+1) X.A)(hg:Gl X x)(ha:DNs X B (e::es) gxs)(hdb:#[20]=false:=by decide +kernel)
  (he:starEach (e::es) X.env=(false,eval e X.env)::starEach es X.env:=by rfl) (hpl:#[24].any (·.1)=false:=by rfl):DE X B #[26] (gMake C n mi gxs):=by
 obtain⟨f,fd,ps,mi',F,M,hm,hb,hmi⟩:=h.ex
 exact G7 hmi M F hr hg hm hb ha hdb he hpl
theorem xN {gs:EnvD->Option #[3]}(hg:Gl X "len") (hm:X.mg "len" = none) (ha:DRs X B [a] gs) (he:starEach [a] X.env=(false,eval a X.env)::starEach [] X.env:=by rfl) (hpl:(backTo pos (starEach [] X.env)).any (·.1)=false:=by rfl) :
  DE X B (.Call (.Name "len" p) [a] [] pos) (gB fLen gs):=ui ze9 zad hg hm #[13] ha #[7] #[7] he hpl
theorem vc {gs:EnvD->Option #[3]}(hc:X.calm=true)(hg:Gl X "max") (hm:X.mg "max" = none) (ha:DRs X B [a,b] gs) (he:starEach [a,b] X.env=(false,eval a X.env)::starEach [b] X.env:=by rfl) (hpl:(backTo pos (starEach [b] X.env)).any (·.1)=false:=by rfl) :
  DE X B (.Call (.Name "max" p) [a,b] [] pos) (gB fMax gs):=ui (zew hc) UI hg hm #[13] ha #[7] #[7] he hpl
theorem Q4 {gs:EnvD->Option #[3]}(hc:X.calm=true)(hg:Gl X "min") (hm:X.mg "min" = none) (ha:DRs X B [a,b] gs) (he:starEach [a,b] X.env=(false,eval a X.env)::starEach [b] X.env:=by rfl) (hpl:(backTo pos (starEach [b] X.env)).any (·.1)=false:=by rfl) :
  DE X B (.Call (.Name "min" p) [a,b] [] pos) (gB fMin gs):=ui (zdz hc) zbr hg hm #[13] ha #[7] #[7] he hpl
theorem RU {gs:EnvD->Option #[3]}(hc:X.calm=true)(hg:Gl X "all") (hm:X.mg "all" = none) (ha:DRs X B [a] gs) (he:starEach [a] X.env=(false,eval a X.env)::starEach [] X.env:=by rfl) (hpl:(backTo pos (starEach [] X.env)).any (·.1)=false:=by rfl) :
  DE X B (.Call (.Name "all" p) [a] [] pos) (gB fAll gs):=ui (ze8 hc) G6 hg hm #[13] ha #[7] #[7] he hpl
theorem wj {gs:EnvD->Option #[3]}(hg:Gl X "list") (hm:X.mg "list" = none) (ha:DRs X B [a] gs) (he:starEach [a] X.env=(false,eval a X.env)::starEach [] X.env:=by rfl) (hpl:(backTo pos (starEach [] X.env)).any (·.1)=false:=by rfl) :
  DA X B (.Call (.Name "list" p) [a] [] pos) (gB fList gs):=U6 zaw zd6 hg hm #[13] ha #[7] #[7] he hpl
theorem kitT {K:PySem.W.Frag}(T:String)(hT:T∈["bool","int","str","list","tuple","dict"]):∀t b,subT t T=some b->kitOne K (.type t) (.type T)=some b:=by
 intro t b h
 unfold subT at h
 by_cases h1:t=T
 ·rw[if_pos h1] at h
  cases h
  subst h1
  unfold kitOne
  rw[if_pos (beq_self_eq_true _)]
 ·rw[if_neg h1] at h
  by_cases h2:t = "bool" /\ T = "int"
  ·rw[if_pos h2] at h
   cases h
   obtain⟨rfl,rfl⟩:=h2
   rfl
  ·rw[if_neg h2] at h
   by_cases h3:(t∈["NoneType","bool","int","str","list","tuple","dict"])/\(T∈["bool","int","str","list","tuple","dict"])
   ·rw[if_pos h3] at h
    cases h
    obtain⟨m1,m2⟩:=h3
    simp only[List.mem_cons,List.not_mem_nil,or_false] at m1 m2
    rcases m1 with rfl | rfl | rfl | rfl | rfl | rfl | rfl<;>rcases m2 with rfl | rfl | rfl | rfl | rfl | rfl<;>first | rfl | exact absurd rfl h1 | exact absurd ⟨rfl,rfl⟩ h2
   ·rw[if_neg h3] at h;cases h
def ckFree (sc:List (Str×NameKind))(y:Str×NameKind):Bool:=y.2 != .free||sc.lookup y.1==some .cell||sc.lookup y.1==some .free
def ckComp (names sc:List (Str×NameKind))(N:List Str)(cap:List (Str×Nat)):Bool :=
 names.all (λy=>y.2 != .cell)&&names.all (λy=>y.2 != .local||names.lookup y.1==some .local)&&names.all (ckFree sc)&&cap.all (λp=>names.lookup p.1==some .free&&N[p.2]?==some p.1)
theorem wF {scope:Scope}{own:List Str}{cap:List (Str×Nat)}{sc:List (Str×NameKind)}{N:List Str}(hk:scope.kind=.function)(h1:X.env.scope.names=sc)(h2:X.N=N)(h:ckComp scope.names sc N cap=true):CompScope X scope own cap:=by
 subst h1 h2
 unfold ckComp at h
 simp only[Bool.and_eq_true,List.all_eq_true] at h
 obtain⟨⟨⟨a1,a2⟩,a3⟩,a4⟩:=h
 refine⟨hk,λy hy e=>?_,λy hy e=>?_,λy hy e=>?_,λp hp=>?_⟩
 ·have:=a1 y hy;rw[e] at this;cases this
 ·have:=a2 y hy;rw[e] at this;simpa using this
 ·have:=a3 y hy
  unfold ckFree at this
  rw[e] at this
  have q:List.lookup y.fst X.env.scope.names=some NameKind.cell∨List.lookup y.fst X.env.scope.names=some NameKind.free:=by simpa using this
  exact q
 ·have:=a4 p hp
  simpa using this
end
def thenB (o:Option Fl)(g:SD):Option Fl:=o.bind λfl=>match fl with | .next ρ'=>g ρ' | fl=>some fl
def loopB (o:Option Fl)(k:EnvD->Option Fl):Option Fl:=o.bind λfl=>match fl with | .next ρ2=>k ρ2 | .cont ρ2=>k ρ2 | .brk ρ2=>some (.next ρ2) | .ret o=>some (.ret o)
section
variable {ρ:EnvD}{i k n:Nat}{d x y:D}{ds es:List D}{a b j:Int}{α γ:Type}{ga gb gc' g:EnvD->Option D}{ta tb:EnvD->Option Bool}{gs:EnvD->Option #[3]}{s1 s2:SD}
@[simp]theorem zkh:gc d ρ=some d:=rfl
@[simp]theorem zia:gv i ρ=match ρ[i]? with | some (some (.val d))=>some d | _=>none:=rfl
@[simp]theorem zmp:gr i ρ=match ρ[i]? with | some (some (.val d))=>some d | some (some (.acc ds))=>some (.lst ds) | some (some (.bor ds))=>some (.lst ds) | _=>none:=rfl
@[simp]theorem zjf:gn i ρ=match ρ[i]? with | some (some (.val d))=>some (.val d) | some (some (.acc ds))=>some (.bor ds) | some (some (.bor ds))=>some (.bor ds) | some (some (.dct _ kvs))=>some (.dbo kvs) | some (some (.dbo kvs))=>some (.dbo kvs) | _=>none:=rfl
@[simp]theorem zj1:gf i ρ=match ρ[i]? with | some (some (.val d))=>some d | some (some (.bor ds))=>some (.lst ds) | _=>none:=rfl
@[simp]theorem zlw:gFz gs ρ=(gs ρ).map D.lst:=rfl
@[simp]theorem j6 {f:D->D->Option γ}:g2 f ga gb ρ=(ga ρ).bind λx=>(gb ρ).bind λy=>f x y:=rfl
@[simp]theorem zl6 {f f':D->D->Option D}:g3 f f' ga gb gc' ρ=(ga ρ).bind λx=>(gb ρ).bind λy=>((f x y).bind asB).bind λk=>if k then (gc' ρ).bind λz=>f' y z else some (.bl false):=rfl
@[simp]theorem JT:gt g ρ=(g ρ).bind truD:=rfl
@[simp]theorem uz:gb' g ρ=(g ρ).bind asB:=rfl
@[simp]theorem zh3:gAnd ta tb ρ=(ta ρ).bind λx=>if x then tb ρ else some false:=rfl
@[simp]theorem zk0:gOr ta tb ρ=(ta ρ).bind λx=>if x then some true else tb ρ:=rfl
@[simp]theorem V8:gNot ta ρ=(ta ρ).map λx=>!x:=rfl
@[simp]theorem zje:gAndV ga gb ρ=((ga ρ).bind asB).bind λx=>if x then gb ρ else some (.bl false):=rfl
@[simp]theorem zjv:gNotV ga ρ=((ga ρ).bind asB).map λx=>.bl (!x):=rfl
@[simp]theorem zlv:gIf ta ga gb ρ=(ta ρ).bind λx=>if x then ga ρ else gb ρ:=rfl
@[simp]theorem zl9:gNil ρ=some []:=rfl
@[simp]theorem zlx:gCons' g gs ρ=(g ρ).bind λd=>(gs ρ).bind λds=>some (d::ds):=rfl
@[simp]theorem zio:gTup' gs ρ=(gs ρ).bind λds=>if ds.length<=TOP then some (.tup ds) else none:=rfl
@[simp]theorem zim:gLst gs ρ=(gs ρ).bind λds=>if ds.length<=TOP then some ds else none:=rfl
@[simp]theorem zj3 {f:List D->Option γ}:gB f gs ρ=(gs ρ).bind f:=rfl
@[simp]theorem zk1:nNil ρ=some []:=rfl
@[simp]theorem xD {g:EnvD->Option En}{gs:EnvD->Option (List En)}:nCons g gs ρ=(g ρ).bind λd=>(gs ρ).bind λds=>some (d::ds):=rfl
@[simp]theorem Qc:gVal g ρ=(g ρ).map En.val:=rfl
@[simp]theorem zlf {T:String}:gIs T g ρ=(g ρ).bind λd=>(tyD d).bind λt=>(subT t T).map D.bl:=rfl
@[simp]theorem zmi:gNone ρ=some none:=rfl
@[simp]theorem zlp:gSome g ρ=(g ρ).bind λd=>(asI d).map some:=rfl
@[simp]theorem zi0:gNeg g ρ=(g ρ).bind fNeg:=rfl
@[simp]theorem zku:gIt g ρ=(g ρ).bind itL:=rfl
@[simp]theorem zjm {gl gh:EnvD->Option (Option Int)}:gSl g gl gh ρ=(g ρ).bind λd=>(gl ρ).bind λl=>(gh ρ).bind λh=>match d with | .lst ds=>some (cutD ds l h) | _=>none:=rfl
@[simp]theorem zlq:fNeg (.int a)=some (.int (-a)):=rfl
@[simp]theorem zj0:itL (.lst ds)=some ds:=rfl
@[simp]theorem zh9:asI (.int a)=some a:=rfl
@[simp]theorem zh5 {b:Bool}:asB (.bl b)=some b:=rfl
@[simp]theorem KB {m:List En->Option En}{f:En->Option α}{gs:EnvD->Option (List En)}:gCall m f gs ρ=((gs ρ).bind m).bind f:=rfl
@[simp]theorem zkr {m:List En->Option En}{xs:List En}:len? n m xs=if xs.length=n then m xs else none:=rfl
@[simp]theorem zlc:frzO (.val d)=some d:=rfl
@[simp]theorem zlh:frzO (.acc ds)=some (.lst ds):=rfl
@[simp]theorem ziv:frzO (.bor ds)=none:=rfl
@[simp]theorem zkf {p q C:Addr}{fs:List Str}:frzO (.oac p q C fs ds)=none:=rfl
@[simp]theorem zjw {t:OT}:frzO (.tre t)=some t.erase:=rfl
@[simp]theorem zk2 {t:OT}:accO (.tre t)=none:=rfl
@[simp]theorem zj7:accO (.val d)=none:=rfl
@[simp]theorem zj2:accO (.bor ds)=none:=rfl
@[simp]theorem zll:accO (.acc ds)=some ds:=rfl
@[simp]theorem zl8:gR1 gs ρ=(gs ρ).bind λxs=>match xs with | [.int j]=>if -BIG<=j/\j<=BIG then some (rngD 0 j.toNat) else none | _=>none:=rfl
@[simp]theorem zj6:gR2 gs ρ=(gs ρ).bind λxs=>match xs with | [.int i,.int j]=>if (-BIG<=i/\i<=BIG)/\(-BIG<=j/\j<=BIG) then some (rngD i (j - i).toNat) else none | _=>none:=rfl
@[simp]theorem zjz:gEn gs ρ=(gs ρ).bind λxs=>match xs with | [d]=>(itL d).map (enumD 0) | _=>none:=rfl
@[simp]theorem wT {C:Addr}{fl:Str}:gFld C fl g ρ=(g ρ).bind λd=>match d with | .obj C' fs ds=>if C'=C then lookZ fl fs ds else none | _=>none:=rfl
@[simp]theorem zQ {C:Addr}{mm:Str}{m:List En->Option En}{f:En->Option α}{go:EnvD->Option D}{gs:EnvD->Option (List En)}:gMeth C mm m f go gs ρ=(go ρ).bind λd=>match d with
 |.obj C' fs ds=>if C'=C/\lookZ mm fs ds=none then ((gs ρ).bind λxs=>m (.val d::xs)).bind f else none
 |_=>none:=rfl
@[simp]theorem zjc {C:Addr}{mi:List En->Option #[22]}{gs:EnvD->Option (List En)}:gMake C n mi gs ρ=(gs ρ).bind λxs=>if xs.length=n then (mi xs).map λr=>.obj C r.1 r.2 else none:=rfl
@[simp]theorem zk7 {own:List Str}{cap:List (Str×Nat)}{t:Tgt}{tc:EnvD->Option Bool}{ge:EnvD->Option D}{gi:EnvD->Option #[3]}:gComp own cap t tc ge gi ρ=(gi ρ).bind λds=>if ds.length<=TOP then compD t tc ge #[21] ds else none:=rfl
@[simp]theorem zjs {cap:List (Str×Nat)}:capE ρ cap=cap.map λp=>capO ρ[p.2]?:=rfl
@[simp]theorem Ud:tYes ρ=some true:=rfl
@[simp]theorem zlr:fSub (.int a) (.int b)=some (.int (a - b)):=rfl
theorem QW:fMul (.int a) (.int b)=if (decide (-LIM < a)&&decide (a < LIM))||(decide (-LIM < b)&&decide (b < LIM)) then some (.int (a * b)) else none:=rfl
theorem VS (h1:-LIM < a)(h2:a < LIM):fMul (.int a) (.int b)=some (.int (a * b)):=by rw[QW,if_pos (by simp[h1,h2])]
theorem zl5 (h1:-LIM < b)(h2:b < LIM):fMul (.int a) (.int b)=some (.int (a * b)):=by rw[QW,if_pos (by simp[h1,h2])]
theorem zez:fDiv (.int a) (.int b)=if decide (0 < b)&&decide (b < 1073741824) then some (.int (a / b)) else none:=rfl
theorem Gj:fMod (.int a) (.int b)=if decide (0 < b) then some (.int (a % b)) else none:=rfl
theorem wE (h1:0 < b)(h2:b < 1073741824):fDiv (.int a) (.int b)=some (.int (a / b)):=by rw[zez,if_pos (by simp[h1,h2])]
theorem yh (h1:0 < b):fMod (.int a) (.int b)=some (.int (a % b)):=by rw[Gj,if_pos (by simp[h1])]
theorem Km (h1:0<=b):fShr (.int a) (.int b)=some (.int (a / 2 ^ b.toNat)):=by show (if _ then _ else _)=_;rw[if_pos (by simp[h1])]
@[simp]theorem zh6:fAnd (.int a) (.int b)=some (.int (Builtin.bitAnd a b)):=rfl
theorem zig:fPow (.int a) (.int b)=if decide (0<=b)&&decide (b<=1000000)&&decide (a.natAbs < 18446744073709551616) then some (.int (a ^ b.toNat)) else none:=rfl
@[simp]theorem zlm:fLt (.int a) (.int b)=some (.bl (decide (a < b))):=rfl
@[simp]theorem zkg:fLe (.int a) (.int b)=some (.bl (decide (a<=b))):=rfl
@[simp]theorem zjh:fGt (.int a) (.int b)=some (.bl (decide (b < a))):=rfl
@[simp]theorem zkw:fGe (.int a) (.int b)=some (.bl (decide (b<=a))):=rfl
@[simp]theorem zid:fIx (.lst ds) (.int a)=atI ds a:=rfl
@[simp]theorem zli:fIx (.tup ds) (.int a)=atI ds a:=rfl
@[simp]theorem zls {ns:List Int}:fIx (.scr ns) (.int a)=(atI ns a).map D.int:=rfl
theorem V4:eqOk (.int a)=true:=by simp[eqOk,SeqAt.shaped,toP,PyData.canLay0,PyData.depth]
@[simp]theorem zk6 {neg:Bool}:fEq neg (.int a) (.int b)=some (.bl (if neg then !decide (a=b) else decide (a=b))):=by
 unfold fEq
 rw[V4,V4]
 have:eqD (.int a) (.int b)=decide (a=b):=by
  by_cases h:a=b
  ·subst h;simp[eqD,toP,PyData.eqv]
  ·simp[eqD,toP,PyData.eqv,h]
 rw[this];rfl
@[simp]theorem zhz {neg:Bool}:fIs neg d .non=some (.bl (if neg then !isNon d else isNon d)):=by cases d<;>rfl
@[simp]theorem zix:isNon .non=true:=rfl
@[simp]theorem zja:isNon (.int a)=false:=rfl
@[simp]theorem zlt {b:Bool}:truD (.bl b)=some b:=rfl
@[simp]theorem zkj:truD (.lst ds)=some (!ds.isEmpty):=rfl
@[simp]theorem zjx:truD (.tup ds)=some (!ds.isEmpty):=rfl
@[simp]theorem zib:fLen [.lst ds]=some (.int ds.length):=rfl
@[simp]theorem zjg:fLen [.tup ds]=some (.int ds.length):=rfl
@[simp]theorem zkn {ns:List Int}:fLen [.scr ns]=some (.int ns.length):=rfl
@[simp]theorem zky:fMax [.int a,.int b]=some (.int (max a b)):=by
 show some (D.int (if b > a then b else a))=_
 congr 2;split<;>omega
@[simp]theorem zkt:fMin [.int a,.int b]=some (.int (min a b)):=by
 show some (D.int (if b < a then b else a))=_
 congr 2;split<;>omega
@[simp]theorem zl3:fAll [.lst ds]=(asBs ds).map λbs=>.bl (bs.all λx=>x):=rfl
@[simp]theorem zjl:fList [.lst ds]=some ds:=rfl
@[simp]theorem zit:fList [.tup ds]=some ds:=rfl
@[simp]theorem zlu:tyD (.int a)=some "int" := rfl
@[simp]theorem zh4 {b:Bool}:tyD (.bl b)=some "bool" := rfl
@[simp]theorem zmg:tyD .non=some "NoneType" := rfl
@[simp]theorem zkp:tyD (.lst ds)=some "list" := rfl
@[simp]theorem zht:tyD (.tup ds)=some "tuple" := rfl
@[simp]theorem zmc {x:Str}:tyD (.str x)=some "str" := rfl
@[simp]theorem zjy:subT "int" "int" = some true:=by decide
@[simp]theorem zhx:subT "int" "bool" = some false:=by decide
@[simp]theorem zi7:subT "NoneType" "int" = some false:=by decide
@[simp]theorem zks:subT "list" "list" = some true:=by decide
@[simp]theorem zjp:subT "tuple" "tuple" = some true:=by decide
@[simp]theorem Uh:sSeq s1 s2 ρ=thenB (s1 ρ) s2:=rfl
@[simp]theorem zjn:thenB (some (.next ρ)) s2=s2 ρ:=rfl
@[simp]theorem zh0 {o:En}:thenB (some (.ret o)) s2=some (.ret o):=rfl
@[simp]theorem zi9:thenB none s2=none:=rfl
@[simp]theorem ziq {k:EnvD->Option Fl}:loopB (some (.next ρ)) k=k ρ:=rfl
@[simp]theorem zmd {k:EnvD->Option Fl}{o:En}:loopB (some (.ret o)) k=some (.ret o):=rfl
@[simp]theorem zju {k:EnvD->Option Fl}:loopB none k=none:=rfl
@[simp]theorem zjo:sNext ρ=some (.next ρ):=rfl
@[simp]theorem zjr:sNever ρ=none:=rfl
@[simp]theorem zlz:sFrz i s1 ρ=s1 (frzE i ρ):=rfl
@[simp]theorem zii:frzE i ρ=match ρ[i]? with | some (some (.acc ds))=>ρ.set i (some (.val (.lst ds))) | some (some (.oac _ _ C fs ds))=>ρ.set i (some (.val (.obj C fs ds))) | some (some (.tre t))=>ρ.set i (some (.val t.erase)) | _=>ρ:=rfl
@[simp]theorem zi6:sSet i g ρ=(g ρ).map λd=>.next (ρ.set i (some (.val d))):=rfl
@[simp]theorem zlg:sSetA i gs ρ=(gs ρ).map λds=>.next (ρ.set i (some (.acc ds))):=rfl
@[simp]theorem zil:sRet g ρ=(g ρ).map λd=>.ret (.val d):=rfl
@[simp]theorem zkq:sRetA gs ρ=(gs ρ).map λd=>.ret (.acc d):=rfl
@[simp]theorem zkz:sRetV i ρ=match ρ[i]? with | some (some (.acc ds))=>some (.ret (.acc ds)) | some (some (.val d))=>some (.ret (.val d)) | _=>none:=rfl
@[simp]theorem kX:sIf ta s1 s2 ρ=(ta ρ).bind λb=>if b then s1 ρ else s2 ρ:=rfl
@[simp]theorem zk4:sExpr g ρ=(g ρ).map λ_=>.next ρ:=rfl
@[simp]theorem ziw:sApp i g ρ=match ρ[i]? with | some (some (.acc ds))=>(g ρ).bind λd=>if ds.length<=TOP then some (.next (ρ.set i (some (.acc (ds++[d]))))) else none | _=>none:=rfl
@[simp]theorem zhs:sPop i ρ=match ρ[i]? with | some (some (.acc ds))=>if ds.isEmpty then none else some (.next (ρ.set i (some (.acc ds.dropLast)))) | _=>none:=rfl
@[simp]theorem zi8 {gi:EnvD->Option D}:sPut i gi g ρ=match ρ[i]? with | some (some (.acc ds))=>(g ρ).bind λd=>((gi ρ).bind asI).bind λj=>(ixN ds.length j).map λn=>.next (ρ.set i (some (.acc (ds.set n d)))) | _=>none:=rfl
@[simp]theorem zi4 {C:Addr}{fl:Str}:sFldD i C fl g ρ=match ρ[i]? with | some (some (.oac a dx C' fs ds))=>if C'=C/\fs.length < 900 then (g ρ).map λd=>.next (ρ.set i (some (.oac a dx C (putZ fl d fs ds).1 (putZ fl d fs ds).2))) else none | _=>none:=rfl
@[simp]theorem zcs {t:Tgt}{gi:EnvD->Option #[3]}:sFor t gi s1 ρ=(gi ρ).bind λds=>forD t s1 ds ρ:=rfl
@[simp]theorem zbg:asgD (.name i) d ρ=some (ρ.set i (some (.val d))):=rfl
@[simp]theorem zla {is:List Nat}:asgD (.tup is) (.tup ds) ρ=if ds.length=is.length then some (z7 is ds ρ) else none:=rfl
@[simp]theorem zl1 {is:List Nat}:z7 (i::is) (d::ds) ρ=z7 is ds (ρ.set i (some (.val d))):=rfl
@[simp]theorem zj9:z7 [] [] ρ=ρ:=rfl
@[simp]theorem zmm {o:En}:outO (some (.ret o))=some o:=rfl
@[simp]theorem zhv:outO (some (.next ρ))=some (.val .non):=rfl
@[simp]theorem zjk {t:Tgt}:forD t s1 [] ρ=some (.next ρ):=rfl
@[simp]theorem xX {t:Tgt}:forD t s1 (d::ds) ρ=loopB ((asgD t d ρ).bind s1) (forD t s1 ds):=by
 show ((asgD t d ρ).bind λρ1=>(s1 ρ1).bind λfl=>_)=_
 cases asgD t d ρ with
 |none=>rfl
 |some ρ1=>rfl
@[simp]theorem ziy {t:Tgt}:compD t ta g ρ []=some []:=rfl
@[simp]theorem qN {t:Tgt}:compD t ta g ρ (d::ds)=(asgD t d ρ).bind λρ1=>(ta ρ1).bind λb=>if b then (g ρ1).bind λy=>(compD t ta g ρ ds).map (y::·) else compD t ta g ρ ds:=rfl
@[simp]theorem zij:capO (some (some (.val d)))=some (.val d):=rfl
@[simp]theorem zmn:capO (some (some (.acc ds)))=some (.bor ds):=rfl
@[simp]theorem zle:capO (some (some (.bor ds)))=some (.bor ds):=rfl
@[simp]theorem zmb {oa:Option Addr}{kvs:List (Key×D)}:capO (some (some (.dct oa kvs)))=some (.dbo kvs):=rfl
@[simp]theorem zko {kvs:List (Key×D)}:capO (some (some (.dbo kvs)))=some (.dbo kvs):=rfl
theorem wm {xs:List α}{v:α}(n:Nat)(h:xs[n]?=some v):atI xs (n:Int)=some v:=by
 have hl:n < xs.length:=(List.getElem?_eq_some_iff.mp h).1
 unfold atI ixN
 rw[if_pos #[1],if_pos #[1]]
 simpa using h
@[simp]theorem zif {xs:List α}{v:α}:atI (v::xs) 0=some v:=wm 0 rfl
@[simp]theorem zmh {xs:List α}{v w:α}:atI (w::v::xs) 1=some v:=wm 1 rfl
@[simp]theorem zme {xs:List α}{v w u:α}:atI (u::w::v::xs) 2=some v:=wm 2 rfl
@[simp]theorem jm {xs:List α}{v:α}:atI (xs++[v]) (-1)=some v:=by
 unfold atI ixN
 rw[if_neg #[1],if_pos #[18]]
 simp
 have:(-1+((xs.length:Int)+1)).toNat=xs.length:=by omega
 rw[this];simp
theorem Yx (n:Nat):ixN (n+1) (-1)=some n:=by
 unfold ixN
 rw[if_neg #[1],if_pos #[1]]
 congr 1;omega
theorem kH:∀(lo:Int) (n:Nat),rngD lo n=(List.range n).map λ(k:Nat)=>D.int (lo+k)
 |lo,0=>rfl
 |lo,n+1=>by
  rw[rngD,kH (lo+1) n,List.range_succ_eq_map]
  simp only[List.map_cons,List.map_map]
  congr 1
  ·simp
  ·apply List.map_congr_left
   intro a _
   show D.int _=D.int _
   congr 1
   show lo+1+(a:Int)=lo+((a+1:Nat):Int)
   omega
end
section
variable {X:Cx}{B:Bs}{e a b c o:Expr}{es:List Expr}{pos p apos cpos p2:Pos}{g ga gb go:EnvD->Option D}{gs:EnvD->Option #[3]}{x:Str}
def fPlus:D->D->Option D
 |.int i,.int j=>some (.int (i+j))
 |.str x,.str y=>if x.length+y.length<=TOP then some (.str (x++y)) else none
 |_,_=>none
theorem zd0 {K:KW}:OkR K (λx y H Q=>rI0 (λi j=>.int (i+j)) x y H Q∨∃i j,x=.str i/\y=.str j/\i.length+j.length<=sizeLine/\Q (.str (i++j)) H) (pE K) fPlus:=by
 intro F H x y dx dy d Q s rx ry e k
 unfold fPlus at e
 split at e
 ·cases e;exact .inl ⟨_,_,rx.int,ry.int,k _ F H (.refl s) rfl⟩
 ·split at e
  ·rename_i hc
   cases e;exact .inr ⟨_,_,rx.str,ry.str,yk hc,k _ F H (.refl s) rfl⟩
  ·cases e
 ·cases e
theorem zB (ha:DR X B a ga)(hb:DR X B b gb):DE X B (.BinOp a .Add b pos) (g2 fPlus ga gb):=xB (op_add.or U9) zd0 ha hb
def fItem:D->D->Option D
 |.str z,.int i=>if z.length<=TOP then (atI z.cps.toList i).map λc=>.str ⟨#[c]⟩ else none
 |.lst xs,.int i=>atI xs i
 |.tup xs,.int i=>atI xs i
 |.scr ns,.int i=>(atI ns i).map D.int
 |_,_=>none
theorem QY {K:KW}:OkR K (rIx K) (pE K) fItem:=by
 intro F H x y dx dy d Q s rx ry e k
 cases dx with
 |str z=>
  cases dy with
  |int i=>
   replace e:(if z.length<=TOP then (atI z.cps.toList i).map (λc=>D.str ⟨#[c]⟩) else none)=some d:=e
   split at e
   ·rename_i hc
    cases q:atI z.cps.toList i with
    |none=>rw[q] at e;cases e
    |some c=>
     rw[q] at e
     cases e
     exact .inr (.inr ⟨z,i,c,rx.str,ry.int,yk hc,q,k _ F H (.refl s) rfl⟩)
   ·cases e
  |_=>cases e
 |lst xs=>exact uQ F H x y _ dy d Q s rx ry (by cases dy<;>first | exact e | cases e) k
 |tup xs=>exact uQ F H x y _ dy d Q s rx ry (by cases dy<;>first | exact e | cases e) k
 |scr xs=>exact uQ F H x y _ dy d Q s rx ry (by cases dy<;>first | exact e | cases e) k
 |_=>cases dy<;>cases e
theorem zu (ha:DR X B a ga)(hb:DR X B b gb)(hs:ug b):DE X B (.Subscript a b pos) (g2 fItem ga gb):=zcb Jq QY ha hb hs
def rSlS:V->Option Int->Option Int->Hp->VK->Prop:=λx lo hi H Q=>∃z,x=.str z/\z.length<=sizeLine/\Q (.str (Txt.slice z lo hi)) H
theorem zd7:SlR X rSlS:=by
 intro pins s σ H x v vl vu lo hi sl Q I rx hs pl pu h
 obtain⟨z,rfl,hz,q⟩:=h
 obtain⟨t,rfl⟩:=rx
 refine⟨"str",_,PySem.F.slot_str_getitem.lookup,typeIs_str _ _ _,?_⟩
 cases pl with
 |none=>
  cases pu with
  |none=>exact wpAny_getItem_str_slice (l:=none) (u:=none) (st:=none) hs rfl (post_val_or_str ⟨Nat.le_trans (Txt.slice_le z none none) hz,λt' k=>⟨.str _,H,I.tok _,⟨_,rfl⟩,q⟩⟩)
  |int j tj=>exact wpAny_getItem_str_slice (l:=none) (u:=some (j,tj)) (st:=none) hs rfl (post_val_or_str ⟨Nat.le_trans (Txt.slice_le z none (some j)) hz,λt' k=>⟨.str _,H,I.tok _,⟨_,rfl⟩,q⟩⟩)
 |int i ti=>
  cases pu with
  |none=>exact wpAny_getItem_str_slice (l:=some (i,ti)) (u:=none) (st:=none) hs rfl (post_val_or_str ⟨Nat.le_trans (Txt.slice_le z (some i) none) hz,λt' k=>⟨.str _,H,I.tok _,⟨_,rfl⟩,q⟩⟩)
  |int j tj=>exact wpAny_getItem_str_slice (l:=some (i,ti)) (u:=some (j,tj)) (st:=none) hs rfl (post_val_or_str ⟨Nat.le_trans (Txt.slice_le z (some i) (some j)) hz,λt' k=>⟨.str _,H,I.tok _,⟨_,rfl⟩,q⟩⟩)
def gSlS (g:EnvD->Option D)(gl gh:EnvD->Option (Option Int)):EnvD->Option D:=λρ=>(g ρ).bind λd=>(gl ρ).bind λl=>(gh ρ).bind λh=>match d with
 |.str z=>if z.length<=TOP then some (.str (Txt.slice z l h)) else none
 |_=>none
theorem Q7 {lo hi:Option Expr}{gl gh:EnvD->Option (Option Int)}(he:DR X B e g)(hl:DO X B lo gl)(hh:DO X B hi gh):DE X B (.Subscript e (.Slice lo hi none p2) pos) (gSlS g gl gh) :=
 zt (Qq zd7 he hl hh) λσ H Q ⟨F,ρ,d,r,hg,k⟩=>by
  unfold gSlS at hg
  cases q:g ρ with
  |none=>rw[q] at hg;cases hg
  |some x=>
   cases ql:gl ρ with
   |none=>rw[q,ql] at hg;cases hg
   |some l=>
    cases qh:gh ρ with
    |none=>rw[q,ql,qh] at hg;cases hg
    |some h=>
     rw[q,ql,qh] at hg
     cases x with
     |str z=>
      replace hg:(if z.length<=TOP then some (D.str (Txt.slice z l h)) else none)=some d:=hg
      split at hg
      ·rename_i hc
       cases hg
       refine⟨F,ρ,_,r,q,λv F1 H1 e1 p1=>⟨F1,ρ,l,r.ext e1,ql,λF2 H2 e2=>⟨F2,ρ,h,r.ext (e1.trans e2),qh,λF3 H3 e3=>?_⟩⟩⟩
       exact⟨z,p1.str,yk hc,k _ F3 H3 (e1.trans (e2.trans e3)) rfl⟩
      ·cases hg
     |_=>cases hg
def asSs:List D->Option (List Str)
 | []=>some []
 |.str x::r=>(asSs r).map (x::·)
 |_=>none
def rCatS (K:KW):R2:=λx y H Q=>∃l b xs zs,x=.ref l/\y=.ref b/\SqL K H l xs/\SqL K H b zs/\xs.length+zs.length<=sizeLine/\∀p,H p=none->Q (.ref p) (upd H p (.lst (xs++zs)))
theorem zg5:OpR X (binaryOp .Add) (rCatS X.kw):=by
 intro pins s σ H x y v u Q I rx ry h
 obtain⟨l,b,xs,zs,rfl,rfl,hH,hB,hz,q⟩:=h
 cases rx
 cases ry
 obtain⟨its,r,pl,z⟩:=I.list hH
 obtain⟨its2,r2,pl2,z2⟩:=I.list hB
 obtain⟨⟨cls,dd,data,sl⟩,n,ho,hc,hd',hd⟩:=pl
 obtain⟨⟨cls2,dd2,data2,sl2⟩,n2,ho2,hc2,hd2',hd2⟩:=pl2
 simp only at hc hd hc2 hd2
 subst hc hd hc2 hd2
 have e:its.toArray++its2.toArray=(its++its2).toArray:=by simp
 have l1:=r.length
 have l2:=r2.length
 refine concat_meets ⟨_,ho,rfl⟩ ⟨_,ho2,rfl⟩ noFill_list_add seq_list_add PySem.F.slot_list_add PySem.F.entry_list_add (PySem.F.args_list_add_2 _ _) (list_addW l b its.toArray its2.toArray n n2 dd dd2 sl sl2 #[18]) ⟨ho,ho2,?_⟩
 rw[e]
 exact⟨.ref _,_,I.lnew (t':=s.toks) (r.append r2) (by rw[List.length_append];omega),rfl,q _ I.fresh⟩
def fCatS:D->D->Option #[3]:=λx y=>(itL x).bind λxs=>(itL y).bind λys=>if xs.length+ys.length<=TOP then some (xs++ys) else none
theorem GM {K:KW}:OkR K (rCatS K) (pA K) fCatS:=by
 intro F H x y dx dy d Q s rx ry e k
 unfold fCatS at e
 obtain⟨xs,ys,q1,q2,q3⟩:=bind2 e
 split at q3
 ·rename_i hc
  cases q3
  obtain⟨l,vs,rfl,h2,h1⟩:=ua rx q1
  obtain⟨b,ws,rfl,h4,h3⟩:=ua ry q2
  refine⟨l,b,vs,ws,rfl,rfl,h1 F H (Same.refl _) s (Same.refl _),h3 F H (Same.refl _) s (Same.refl _),yk (by rw[<-h2.length,<-h4.length];exact hc),λp hp=>k _ F _ (.new s hp) ⟨p,_,rfl,hp,zy,s.free hp,h2.append h4⟩⟩
 ·cases q3
theorem u9 (ha:DR X B a ga)(hb:DR X B b gb):DA X B (.BinOp a .Add b pos) (g2 fCatS ga gb):=Vo zg5 GM ha hb
def fInt:List D->Option D
 | [.int i]=>some (.int i)
 | [.bl b]=>some (.int (if b then 1 else 0))
 |_=>none
theorem Gc {K:KW}:CallOk K (λxs H Q=>(∃i,xs=[.int i]/\Q (.int i) H)∨∃k,xs=[.bl k]/\Q (.int (if k then 1 else 0)) H) (pE K) fInt:=by
 intro F H vs ds d Q s hp e k
 unfold fInt at e
 split at e
 ·cases e
  obtain⟨v,rfl,r⟩:=pair1 hp
  cases r.int
  exact .inl ⟨_,rfl,k _ F H (.refl s) rfl⟩
 ·cases e
  obtain⟨v,rfl,r⟩:=pair1 hp
  cases r.bl
  exact .inr ⟨_,rfl,k _ F H (.refl s) rfl⟩
 ·cases e
theorem kN (hg:Gl X "int") (hm:X.mg "int" = none) (ha:DRs X B [a] gs) (he:starEach [a] X.env=(false,eval a X.env)::starEach [] X.env:=by rfl) (hpl:(backTo pos (starEach [] X.env)).any (·.1)=false:=by rfl) :
  DE X B (.Call (.Name "int" p) [a] [] pos) (gB fInt gs):=zbc WQ Gc hg hm #[13] ha #[7] #[7] he hpl
def sAsg (t:Tgt)(g:EnvD->Option D):SD:=λρ=>(g ρ).bind λd=>(asgD t d ρ).map Fl.next
theorem YD {tg:Expr}{t:Tgt}(he:DE X B e g)(hg:PG X tg (tgT X.kw t))(hs:swapsWithSole [tg] e pos.line X.env=pure false:=by rfl)(hw:swappedStores [tg] e X.env=pure none:=by rfl)
  (h1:(assignEach [tg] X.env).map (·.2)=[assign tg X.env]:=by rfl):DS X B (.Assign [tg] e pos) (sAsg t g) :=
 zD (uT he hg hs hw h1) λE σ H ⟨F,ρ,fl,r,hg,k⟩=>by
  unfold sAsg at hg
  cases q:g ρ with
  |none=>rw[q] at hg;cases hg
  |some d=>
   rw[q] at hg
   replace hg:(asgD t d ρ).map Fl.next=some fl:=hg
   cases q2:asgD t d ρ with
   |none=>rw[q2] at hg;cases hg
   |some ρ'=>
    rw[q2] at hg
    cases hg
    exact⟨F,ρ,d,r,q,λv F1 H1 e1 p1=>jU (r.ext e1) p1 q2 λσ' r' _=>k σ' F1 H1 r' e1.ff⟩
def whileD (t:EnvD->Option Bool)(gb:SD):Nat->EnvD->Option Fl
 |0,_=>none
 |n+1,ρ=>(t ρ).bind λb=>if b then (gb ρ).bind λfl=>match fl with
  |.next ρ2=>whileD t gb n ρ2
  |.cont ρ2=>whileD t gb n ρ2
  |.brk ρ2=>some (.next ρ2)
  |.ret o=>some (.ret o)
  else some (.next ρ)
theorem Zo {t:EnvD->Option Bool}{gb:SD}:∀ {n:Nat} {ρ:EnvD} {fl:Fl},whileD t gb n ρ=some fl->whileD t gb (n+1) ρ=some fl
 |0,_,_,h=>by cases h
 |n+1,ρ,fl,h=>by
  rw[whileD] at h ⊢
  cases q:t ρ with
  |none=>rw[q] at h;cases h
  |some b=>
   rw[q] at h
   cases b with
   |false=>exact h
   |true=>
    replace h:((gb ρ).bind λfl=>match fl with
     |.next ρ2=>whileD t gb n ρ2
     |.cont ρ2=>whileD t gb n ρ2
     |.brk ρ2=>some (.next ρ2)
     |.ret o=>some (.ret o))=some fl:=h
    show ((gb ρ).bind λfl=>match fl with
     |.next ρ2=>whileD t gb (n+1) ρ2
     |.cont ρ2=>whileD t gb (n+1) ρ2
     |.brk ρ2=>some (.next ρ2)
     |.ret o=>some (.ret o))=some fl
    cases q2:gb ρ with
    |none=>rw[q2] at h;cases h
    |some f=>
     rw[q2] at h
     cases f with
     |next ρ2=>exact Zo h
     |cont ρ2=>exact Zo h
     |brk ρ2=>exact h
     |ret o=>exact h
theorem Q8 {t:EnvD->Option Bool}{gb:SD}{n m:Nat}{ρ:EnvD}{fl:Fl}(hm:n<=m)(h:whileD t gb n ρ=some fl):whileD t gb m ρ=some fl:=by
 induction hm with
 |refl=>exact h
 |step _ ih=>exact Zo ih
open Classical in
def sWhile (t:EnvD->Option Bool)(gb:SD):SD:=λρ=>if h:∃n fl,whileD t gb n ρ=some fl then some (Classical.choose (Classical.choose_spec h)) else none
theorem Yq {t:EnvD->Option Bool}{gb:SD}{n:Nat}{ρ:EnvD}{fl:Fl}(h:whileD t gb n ρ=some fl):sWhile t gb ρ=some fl:=by
 unfold sWhile
 have hx:∃n fl,whileD t gb n ρ=some fl:=⟨n,fl,h⟩
 rw[dif_pos hx]
 have q:=Classical.choose_spec (Classical.choose_spec hx)
 generalize Classical.choose (Classical.choose_spec hx)=f at q
 generalize Classical.choose hx=k at q
 have a1:=Q8 (Nat.le_max_left n k) h
 have a2:=Q8 (Nat.le_max_right n k) q
 rw[a1] at a2
 exact a2.symm
theorem zfe {t:EnvD->Option Bool}{gb:SD}{ρ:EnvD}{fl:Fl}(h:sWhile t gb ρ=some fl):∃n,whileD t gb n ρ=some fl:=by
 unfold sWhile at h
 split at h
 ·rename_i hx
  cases h
  exact⟨_,Classical.choose_spec (Classical.choose_spec hx)⟩
 ·cases h
theorem Y7 {body:List Stmt}{t:EnvD->Option Bool}{gbd:SD}(hp:PassesOwn #[9] X.A X.env X.xe)(hc:DT X B c t)(hb:DSs X B body gbd):DS X B (.While c body [] pos) (sWhile t gbd) :=
 zD (ze7 hp hc hb) λE σ H ⟨F,ρ,fl,r,hg,k⟩=>by
  obtain⟨n,hn⟩:=zfe hg
  refine⟨λm σ H=>∃F2 ρ2,Rep X.kw B F2 σ H ρ2/\Same F F2/\whileD t gbd m ρ2=some fl,⟨n,F,ρ,r,Same.refl _,hn⟩,?_⟩
  rintro m σ2 H2 ⟨F2,ρ2,r2,s2,h2⟩
  cases m with
  |zero=>cases h2
  |succ m=>
   rw[whileD] at h2
   cases q:t ρ2 with
   |none=>rw[q] at h2;cases h2
   |some bb=>
    rw[q] at h2
    refine⟨F2,ρ2,bb,r2,q,λF3 H3 e3=>?_⟩
    cases bb with
    |false=>
     cases h2
     exact iteF (k σ2 F3 H3 (r2.ext e3) (s2.trans e3.ff))
    |true=>
     refine iteT ⟨λσ' H'=>∃F4 ρ4,Rep X.kw B F4 σ' H' ρ4/\Same F F4/\whileD t gbd m ρ4=some fl,λσ' H' h=>⟨m,Nat.lt_succ_self _,h⟩,?_⟩
     replace h2:((gbd ρ2).bind λfl=>match fl with
      |.next ρ2=>whileD t gbd m ρ2
      |.cont ρ2=>whileD t gbd m ρ2
      |.brk ρ2=>some (.next ρ2)
      |.ret o=>some (.ret o))=some fl:=h2
     cases q2:gbd ρ2 with
     |none=>rw[q2] at h2;cases h2
     |some f1=>
      rw[q2] at h2
      refine⟨F3,ρ2,f1,r2.ext e3,q2,?_⟩
      cases f1 with
      |next ρ5=>exact λσ5 F5 H5 r5 s5=>⟨F5,ρ5,r5,(s2.trans e3.ff).trans s5,h2⟩
      |cont ρ5=>exact λσ5 F5 H5 r5 s5=>⟨F5,ρ5,r5,(s2.trans e3.ff).trans s5,h2⟩
      |brk ρ5=>cases h2;exact λσ5 F5 H5 r5 s5=>k σ5 F5 H5 r5 ((s2.trans e3.ff).trans s5)
      |ret o=>cases h2;exact k
def MutOk (K:KW)(r:V->List V->Hp->VK->Prop)(f:List D->List D->Option #[3]):Prop :=
 ∀F H a vs ds us es ds' Q,H a=some (.lst vs)->Rps K F ds vs->Paired (λd v=>Rp K F d v) es us->f ds es=some ds'->(∀v vs',Rps K F ds' vs'->Q v (upd H a (.lst vs')))->r (.ref a) us H Q
def sMut (i:Nat)(f:List D->List D->Option #[3])(gs:EnvD->Option #[3]):SD:=λρ=>match ρ[i]? with
 |some (some (.acc ds))=>(gs ρ).bind λes=>(f ds es).map λds'=>.next (ρ.set i (some (.acc ds')))
 |_=>none
variable {nm:Str}{id:String}{r:V->List V->Hp->VK->Prop}{f:List D->List D->Option #[3]}
theorem Rh (i:Nat)(slot:Slot "list" nm id) (hty:typeOf (.builtin id)=pure (.type "method_descriptor")) (hm:MtR X id r) (ok:MutOk X.kw r f) (hx:PE X #[11] (tVar i))
  (hbase:attributeBase #[11] nm X.env (eval #[11] X.env)=eval #[11] X.env:=by rfl) (hline:(apos.endLine==cpos.line)=true:=by rfl)
  (hsw:swapsWith (.Call (.Attribute #[11] nm apos) [] [] cpos) none pos.line X.env=pure false:=by rfl) :
  DS X B (.Expr (.Call (.Attribute #[11] nm apos) [] [] cpos) pos) (sMut i f gNil) :=
 zD (wy (We PySem.F.plainAttrs_list slot hty hm hx hbase hline) hsw) λE σ H ⟨F,ρ,fl,r,hg,k⟩=>by
  unfold sMut at hg
  split at hg
  ·rename_i ds q
   replace hg:((f ds []).map λds'=>Fl.next (ρ.set i (some (.acc ds'))))=some fl:=hg
   cases q3:f ds [] with
   |none=>rw[q3] at hg;cases hg
   |some ds'=>
    rw[q3] at hg
    cases hg
    obtain⟨v,hv,a,vs,rfl,h1,h2,h3,h4⟩:=r.ents i _ q
    exact⟨.ref a,hv,.inl ⟨rfl,_,.of h1⟩,ok F H a vs ds [] [] ds' _ h1 h4 .nil q3 λu vs2 h=>k σ F _ (r.write q rfl hv h2 h3 ⟨a,_,rfl,zy,h2,h3,h⟩ rfl) (Same.refl _)⟩
  ·cases hg
def mClear:List D->List D->Option #[3]:=λ_ es=>if es.isEmpty then some [] else none
theorem zfx {K:KW}:MutOk K rClear mClear:=by
 intro F H a vs ds us es ds' Q h1 h2 hp e k
 unfold mClear at e
 cases es with
 |cons=>cases e
 |nil=>
  cases hp
  cases e
  exact⟨a,vs,rfl,rfl,h1,k _ [] rfl⟩
theorem UN {own:List Str}{cap:List (Str×Nat)}{t:Tgt}{tc:EnvD->Option Bool}{ge:EnvD->Option D}{gi:EnvD->Option #[3]}(ht:∀i∈t.slots,i < own.length) :
  ∀σ H Q,lG X.kw B (pA X.kw) (gComp own cap t tc ge gi) σ H Q->tComp (lI X.kw B (λH=>H) gi) own cap (tgT X.kw t) (λσ H Q=>∃B',lT X.kw B' tc σ H Q) (λσ H Q=>∃B',lG X.kw B' (pE X.kw) ge σ H Q) σ H Q:=by
 intro σ H Q ⟨F,ρ,out,r,hg,k⟩
 unfold gComp at hg
 cases q:gi ρ with
 |none=>rw[q] at hg;cases hg
 |some ds=>
  rw[q] at hg
  have hg:(if ds.length<=TOP then compD t tc ge #[21] ds else none)=some out:=hg
  split at hg
  ·rename_i htop
   refine⟨F,ρ,ds,r,q,λJ F1 H1 e1 jok=>?_⟩
   refine⟨λi m ys H2=>m=ds.length - i/\i<=ds.length/\∃F2 o1 o2,Ext F1 H1 F2 H2/\Rps X.kw F2 o1 ys/\o1.length<=i/\compD t tc ge #[21] (ds.drop i)=some o2/\out=o1++o2,
    ⟨ds.length,rfl,Nat.zero_le _,F1,[],out,.refl e1.fh,rfl,Nat.le_refl _,hg,rfl⟩,?_⟩
   rintro i m ys H2 ⟨rfl,hi,F2,o1,o2,e2,ry,hl1,h2,rfl⟩
   refine⟨yk (by rw[<-ry.length];omega),?_⟩
   obtain⟨j1,j2⟩:=jok F2 H2 e2.ff e2.fh e2.hh i
   by_cases hlt:i < ds.length
   ·obtain⟨go,yl⟩:=j1 hlt
    refine .inr ⟨go,λys' H'=>∃F3 p1 p2,Ext F1 H1 F3 H'/\Rps X.kw F3 p1 ys'/\p1.length<=i+1/\compD t tc ge #[21] (ds.drop (i+1))=some p2/\o1++o2=p1++p2,λys' H' ⟨F3,p1,p2,e3,r3,l3,h3,eo⟩=>⟨ds.length - (i+1),by omega,rfl,hlt,F3,p1,p2,e3,r3,l3,h3,eo⟩,λx H3 hy σ1 hσ=>?_⟩
    obtain⟨F3,d,e3,hd,rd⟩:=yl x H3 hy
    have hdd:ds.drop i=d::ds.drop (i+1):=by
     rw[List.drop_eq_getElem_cons hlt]
     congr 1
     rw[List.getElem?_eq_getElem hlt] at hd
     exact Option.some.inj hd
    rw[hdd] at h2
    simp only[compD] at h2
    cases q1:asgD t d #[21] with
    |none=>rw[q1] at h2;cases h2
    |some ρ1=>
     rw[q1] at h2
     have e13:=e2.trans e3
     refine jU (YQ (own:=own) (cap:=cap) r e1 e13 hσ) rd q1 λσ' r4 so=>⟨?_,?_⟩
     ·obtain⟨σ1',l1,e4⟩:=so.pre (σ1:=σ1) rfl (λj hj=>by rw[hσ];exact ht j hj)
      exact⟨σ1',by rw[l1,hσ],e4⟩
     ·have h2:((tc ρ1).bind λb=>if b then (ge ρ1).bind λy=>(compD t tc ge #[21] (ds.drop (i+1))).map (y::·) else compD t tc ge #[21] (ds.drop (i+1)))=some o2:=h2
      cases q2:tc ρ1 with
      |none=>rw[q2] at h2;cases h2
      |some bb=>
       rw[q2] at h2
       refine⟨⟨F1,H1⟩,F3,ρ1,bb,r4,q2,λF5 H5 e5=>?_⟩
       cases bb with
       |false=>exact iteF ⟨F5,o1,o2,e13.trans e5,ry.mono (e3.ff.trans e5.ff),by omega,h2,rfl⟩
       |true=>
        have h2:((ge ρ1).bind λy=>(compD t tc ge #[21] (ds.drop (i+1))).map (y::·))=some o2:=h2
        cases q3:ge ρ1 with
        |none=>rw[q3] at h2;cases h2
        |some y=>
         rw[q3] at h2
         have h2:(compD t tc ge #[21] (ds.drop (i+1))).map (y::·)=some o2:=h2
         cases q4:compD t tc ge #[21] (ds.drop (i+1)) with
         |none=>rw[q4] at h2;cases h2
         |some p2=>
          rw[q4] at h2
          cases h2
          refine iteT ⟨⟨F1,H1⟩,F5,ρ1,y,r4.ext e5,q3,λv F6 H6 e6 p6=>?_⟩
          exact⟨F6,o1++[y],p2,e13.trans (e5.trans e6),(ry.mono (e3.ff.trans (e5.ff.trans e6.ff))).snoc p6,by simp;omega,rfl,by simp⟩
   ·have hi':i=ds.length:=by omega
    have hdd:ds.drop i=[]:=by rw[hi',List.drop_length]
    rw[hdd] at h2
    cases h2
    refine .inl ⟨j2 hi',λD hD=>?_⟩
    have e:=e1.trans e2
    exact k _ F2 _ (e.trans (.new e.fh hD)) ⟨D,ys,rfl,e.hh.free hD,zy,e.fh.free hD,by simpa using ry⟩
  ·cases hg
theorem zck {gl:EnvD->Option #[3]}{σ:St}{H:Hp}{Q:VK}(h:lG X.kw B (pE X.kw) (gFz gl) σ H Q):lG X.kw B (pA X.kw) gl σ H Q:=by
 obtain⟨F,ρ,x,r,hg,k⟩:=h
 unfold gFz at hg
 cases q:gl ρ with
 |none=>rw[q] at hg;cases hg
 |some ds=>
  rw[q] at hg;cases hg
  refine⟨F,ρ,ds,r,q,λv F' H' e p=>?_⟩
  obtain⟨a,vs,rfl,p1,p2,p3,p4⟩:=p
  exact k _ (upd F' a (.lst vs)) H' (e.freeze p1 p3 p2) ⟨a,vs,rfl,zy,p4.mono (ye p3)⟩
section
variable {i:Nat}{y:Str}{py spos:Pos}{elt tg iter:Expr}{ifs:List Expr}{scope:Scope}{own:List Str}{cap:List (Str×Nat)}{t:Tgt}{tc:EnvD->Option Bool}{ge:EnvD->Option D}{gi:EnvD->Option #[3]}
theorem Gs (hc:X.calm=true)(S:CompScope X scope own cap)(hi:DI X B (λH=>H) tg iter gi)
  (hin:∀(B':Bs) C s₀ H₀ fp pn,PG #[27] tg (tgT X.kw t)/\DIfs #[27] B' ifs tc/\DE #[27] B' elt ge)
  (hN:X.N.Nodup) (hiy:X.N[i]?=some y) (hy:Loc X.env.scope y) (hsw:swapsWith #[28] (some (.Name y py)) spos.line X.env=pure true)
  (hs:∀x,foldedSetIterable iter X.env x=pure x) (hfn:X.fn y=true∨X.env.scope.names.lookup y=some .local) :
  PS X (.Assign [.Name y py] #[28] spos) (tAsg (tComp (lI X.kw B (λH=>H) gi) own cap (tgT X.kw t) (λσ H Q=>∃B',lT X.kw B' tc σ H Q) (λσ H Q=>∃B',lG X.kw B' (pE X.kw) ge σ H Q)) (gName i)) :=
 zdf (tc:=λσ H Q=>∃B',lT X.kw B' tc σ H Q) (te:=λσ H Q=>∃B',lG X.kw B' (pE X.kw) ge σ H Q) hc S hi (λC s₀ H₀ fp pn=>⟨(hin ⟨H₀,H₀⟩ C s₀ H₀ fp pn).1,λpins s σ H Q I ⟨B',q⟩=>(hin B' C s₀ H₀ fp pn).2.1 pins s σ H Q I q,λpins s σ H Q I ⟨B',q⟩=>(hin B' C s₀ H₀ fp pn).2.2 pins s σ H Q I q⟩) hN hiy hy hsw hs hfn
theorem zfi (hc:X.calm=true)(S:CompScope X scope own cap)(hi:DI X B (λH=>H) tg iter gi)(ht:∀i∈t.slots,i < own.length)
  (hin:∀(B':Bs) C s₀ H₀ fp pn,PG #[27] tg (tgT X.kw t)/\DIfs #[27] B' ifs tc/\DE #[27] B' elt ge)
  (hN:X.N.Nodup) (hiy:X.N[i]?=some y) (hy:Loc X.env.scope y) (hsw:swapsWith #[28] (some (.Name y py)) spos.line X.env=pure true:=by rfl)
  (hs:∀x,foldedSetIterable iter X.env x=pure x:=by intro _;rfl) (hfn:X.fn y=true∨X.env.scope.names.lookup y=some .local:=by first | exact .inl rfl | exact .inr rfl | assumption) :
  DS X B (.Assign [.Name y py] #[28] spos) (sSet i (gFz (gComp own cap t tc ge gi))) :=
 zD (Gs hc S hi hin hN hiy hy hsw hs hfn) λE σ H h=>UN ht σ H _ (zck (JQ h))
end
end
section
variable {X:Cx}{B:Bs}{e a b c o:Expr}{es:List Expr}{pos p p2 apos cpos:Pos}{g ga gb go:EnvD->Option D}{gs:EnvD->Option #[3]}{x:Str}
def gh (i:Nat):EnvD->Option D:=λρ=>match ρ[i]? with
 |some (some (.val d))=>some d
 |some (some (.acc ds))=>some (.lst ds)
 |some (some (.bor ds))=>some (.lst ds)
 |some (some (.tre t))=>some t.erase
 |_=>none
def pT (K:KW):Post OT:=λ_ H F' H' t v=>RepO K F' H' t v/\(feetO H' t v).Nodup/\∀a∈feetO H' t v,H a=none/\F' a=none
def DTr (X:Cx)(B:Bs)(e:Expr)(g:EnvD->Option OT):Prop:=PE X e (lG X.kw B (pT X.kw) g)
def lTs (K:KW)(B:Bs)(g:EnvD->Option (List OT)):TA:=λσ H Q=>
 ∃F ρ ts,Rep K B F σ H ρ/\g ρ=some ts/\∀vs F' H',Ext F H F' H'->RepOs K F' H' ts vs->(feetOs H' ts vs).Nodup->(∀a∈feetOs H' ts vs,H a=none/\F' a=none)->Q vs H'
def DTrs (X:Cx)(B:Bs)(es:List Expr)(g:EnvD->Option (List OT)):Prop:=PA X es (lTs X.kw B g)
def lfs (ds:List D):List OT:=ds.map OT.frz
theorem lfs_rep {K:KW}{F H:Hp}:∀ {ds:List D} {vs:List V},RepOs K F H (lfs ds) vs↔Rps K F ds vs
 | [],_=>Iff.rfl
 |d::ds,vs=>by
  constructor
  ·rintro ⟨v,r,e,h,t⟩;exact⟨v,r,e,h,lfs_rep.mp t⟩
  ·rintro ⟨v,r,e,h,t⟩;exact⟨v,r,e,h,lfs_rep.mpr t⟩
theorem JL {H:Hp}:∀ {ds:List D} {vs:List V},feetOs H (lfs ds) vs=[]
 | [],_=>rfl
 |d::ds,vs=>by
  cases vs with
  |nil=>rfl
  |cons v r=>show feetO H (.frz d) v++feetOs H (lfs ds) r=[];rw[JL];rfl
theorem JW:∀(ds:List D),erases (lfs ds)=ds
 | []=>rfl
 |d::ds=>by show d::erases (lfs ds)=_;rw[JW ds]
def gLf (g:EnvD->Option D):EnvD->Option OT:=λρ=>(g ρ).map OT.frz
def gLs (g:EnvD->Option #[3]):EnvD->Option OT:=λρ=>(g ρ).map λds=>OT.lst (lfs ds)
theorem DE.tree (h:DE X B e g):DTr X B e (gLf g):=zt h λσ H Q ⟨F,ρ,t,r,hg,k⟩=>by
 unfold gLf at hg
 cases q:g ρ with
 |none=>rw[q] at hg;cases hg
 |some d=>rw[q] at hg;cases hg;exact⟨F,ρ,d,r,q,λv F' H' e p=>k v F' H' e ⟨p,List.nodup_nil,λa ha=>by cases ha⟩⟩
theorem DA.tree {gl:EnvD->Option #[3]}(h:DA X B e gl):DTr X B e (gLs gl):=zt h λσ H Q ⟨F,ρ,t,r,hg,k⟩=>by
 unfold gLs at hg
 cases q:gl ρ with
 |none=>rw[q] at hg;cases hg
 |some ds=>
  rw[q] at hg;cases hg
  refine⟨F,ρ,ds,r,q,λv F' H' e p=>k v F' H' e ?_⟩
  obtain⟨a,vs,rfl,p1,p2,p3,p4⟩:=p
  have hf:feetO H' (.lst (lfs ds)) (.ref a)=[a]:=by simp only[feetO,y0 p2,JL]
  refine⟨⟨a,vs,rfl,p2,lfs_rep.mpr p4⟩,by rw[hf];simp,λb hb=>?_⟩
  rw[hf,List.mem_singleton] at hb
  subst hb
  exact⟨p1,p3⟩
def tNl:EnvD->Option (List OT):=λ_=>some []
def tCn (g:EnvD->Option OT)(gs:EnvD->Option (List OT)):EnvD->Option (List OT):=λρ=>(g ρ).bind λd=>(gs ρ).bind λds=>some (d::ds)
variable {gt':EnvD->Option OT}{gts:EnvD->Option (List OT)}
theorem u0:DTrs X B [] tNl:=yK yr λσ H Q ⟨F,ρ,ds,r,hg,k⟩=>by cases hg;exact k [] F H (.refl r.fh) rfl List.nodup_nil (λa ha=>by cases ha)
theorem yL (ha:DTr X B e gt')(hr:DTrs X B es gts)(hs:starEach (e::es) X.env=(false,eval e X.env)::starEach es X.env:=by rfl):DTrs X B (e::es) (tCn gt' gts) :=
 yK (zW ha hr hs) λσ H Q ⟨F,ρ,ds,r,hg,k⟩=>by
  obtain⟨t,ts,q1,q2,q3⟩:=bind2 hg
  cases q3
  refine⟨F,ρ,t,r,q1,λv F1 H1 e1 ⟨p1,p2,p3⟩=>⟨F1,ρ,ts,r.ext e1,q2,λvs F2 H2 e2 s1 s2 s3=>?_⟩⟩
  obtain⟨u1,u2⟩:=RepO.ext e2.ff e2.hh p1
  have hfe:feetOs H2 (t::ts) (v::vs)=feetO H1 t v++feetOs H2 ts vs:=by rw[<-u2];rfl
  refine k _ F2 H2 (e1.trans e2) ⟨v,vs,rfl,u1,s1⟩ ?_ λa ha=>?_
  ·rw[hfe,List.nodup_append]
   refine⟨p2,s2,λa ha b hb hab=>?_⟩
   subst hab
   exact RepO.feet p1 ha (s3 a hb).1
  ·rw[hfe,List.mem_append] at ha
   rcases ha with ha | ha
   ·exact⟨(p3 a ha).1,yM e2 (p3 a ha).2 (RepO.feet p1 ha)⟩
   ·exact⟨e1.hh.free (s3 a ha).1,(s3 a ha).2⟩
def gTupT (gs:EnvD->Option (List OT)):EnvD->Option OT:=λρ=>(gs ρ).bind λts=>if ts.length<=TOP then some (.tup ts) else none
theorem RepOs.length {K:KW}{F H:Hp}:∀ {ts:List OT} {vs:List V},RepOs K F H ts vs->ts.length=vs.length
 | [],_,h=>by cases h;rfl
 |_::_,_,⟨_,_,e,_,t⟩=>by subst e;simp[RepOs.length t]
theorem kF {x1}(h:DTrs X B es gts):DTr X B (.Tuple es x1 pos) (gTupT gts) :=
 zt (QH h) λσ H Q ⟨F,ρ,t,r,hg,k⟩=>by
  unfold gTupT at hg
  cases q:gts ρ with
  |none=>rw[q] at hg;cases hg
  |some ts=>
   rw[q] at hg
   have hg:(if ts.length<=TOP then some (OT.tup ts) else none)=some t:=hg
   split at hg
   ·rename_i hc
    cases hg
    refine⟨F,ρ,ts,r,q,λvs F1 H1 e1 p1 p2 p3=>⟨yk (by rw[<-p1.length];exact hc),λp hp=>?_⟩⟩
    have hn:p∉feetOs H1 ts vs:=λz=>RepOs.feet p1 z hp
    obtain⟨u1,u2⟩:=RepOs.other (o:=.tup vs) p1 hn
    have hf:feetO (upd H1 p (.tup vs)) (.tup ts) (.ref p)=p::feetOs H1 ts vs:=by simp only[feetO,yD zy,u2]
    refine k _ F1 _ (e1.trans (.new e1.fh hp)) ⟨⟨p,vs,rfl,zy,u1⟩,by rw[hf];exact List.nodup_cons.mpr ⟨hn,p2⟩,λa ha=>?_⟩
    rw[hf,List.mem_cons] at ha
    rcases ha with rfl | ha
    ·exact⟨e1.hh.free hp,e1.fh.free hp⟩
    ·exact p3 a ha
   ·cases hg
def treO:En->Option OT
 |.tre t=>some t
 |_=>none
variable {gxs:EnvD->Option (List En)}{n k:Nat}{m:List En->Option En}
theorem GW {n:Nat}{m:List En->Option En}(hm:∀xs o,m xs=some o->xs.length=n){E:XK}{σ:St}{H:Hp}{Q:VK}(h:lG X.kw B (pT X.kw) (gCall m treO gxs) σ H Q):tCall (pSp X.kw n m) [] E (lNs X.kw B gxs) σ H Q:=by
 obtain⟨F,ρ,d,r,hg,k⟩:=h
 obtain⟨xs,o,q1,q2,q3⟩:=bindC hg
 refine⟨F,ρ,xs,r,q1,λvs F1 H1 e1 p1=>?_⟩
 show pSp X.kw n m (vs++[]) H1 Q E
 rw[List.append_nil]
 refine⟨F1,xs,o,e1.fh,hm xs o q2,p1,q2,λv F2 H2 e2 p2=>?_⟩
 cases o with
 |tre t=>
  cases q3
  obtain⟨h1,h2,h3⟩:=p2
  exact k v F2 H2 (e1.trans e2) ⟨h1,h2,λa ha=>⟨e1.hh.free (h3 a ha).2,(h3 a ha).1⟩⟩
 |_=>cases q3
theorem G8 (h:Fx X.prog X.w X.kw X.mg X.base x k n m)(hr:Room k X.A)(hg:Gl X x)(ha:DNs X B (e::es) gxs)(hdb:#[20]=false:=by decide +kernel)
  (he:starEach (e::es) X.env=(false,eval e X.env)::starEach es X.env:=by rfl) (hpl:#[24].any (·.1)=false:=by rfl):DTr X B #[26] (gCall (len? n m) treO gxs):=by
 obtain⟨f,fd,ps,F,hm,hk,hb⟩:=h.ex
 exact zt (jM F hr hg hm hk hb .nil pass0 ha hdb he hpl) λσ H Q h=>GW we h
def sRetT (g:EnvD->Option OT):SD:=λρ=>(g ρ).map λt=>.ret (.tre t)
theorem up (he:DTr X B e gt'):DS X B (.Return (some e) pos) (sRetT gt'):=zD (v9 he) λE σ H ⟨F,ρ,fl,r,hg,k⟩=>by
 unfold sRetT at hg
 cases q:gt' ρ with
 |none=>rw[q] at hg;cases hg
 |some t=>
  rw[q] at hg;cases hg
  exact⟨F,ρ,t,r,q,λv F1 H1 e1 ⟨p1,p2,p3⟩=>k v F1 H1 (r.ex.trans e1) ⟨p1,p2,λa ha=>⟨(p3 a ha).2,r.ex.hh.free (p3 a ha).1⟩⟩⟩
mutual
def OT.get:OT->List Nat->Option OT
 |t,[]=>some t
 |.lst ts,k::p=>gets ts k p
 |.tup ts,k::p=>gets ts k p
 |.frz _,_::_=>none
def gets:List OT->Nat->List Nat->Option OT
 | [],_,_=>none
 |t::_,0,p=>t.get p
 |_::ts,k+1,p=>gets ts k p
end
mutual
def OT.put:OT->List Nat->OT->OT
 |_,[],u=>u
 |.lst ts,k::p,u=>.lst (puts ts k p u)
 |.tup ts,k::p,u=>.tup (puts ts k p u)
 |.frz d,_::_,_=>.frz d
def puts:List OT->Nat->List Nat->OT->List OT
 | [],_,_,_=>[]
 |t::ts,0,p,u=>t.put p u::ts
 |t::ts,k+1,p,u=>t::puts ts k p u
end
structure At (K:KW)(F H:Hp)(ft:List Addr)(ds:List D)(b:Addr)(vs:List V):Prop where
 hb:H b=some (.lst vs)
 rp:Rps K F ds vs
 mem:b∈ft
end
def OT.size:OT->Option Nat
 |.lst ts=>some ts.length
 |.tup ts=>some ts.length
 |.frz _=>none
section
variable {X:Cx}{B:Bs}{e a b c o:Expr}{es:List Expr}{pos p p2 apos cpos:Pos}{g ga gb go:EnvD->Option D}{gs:EnvD->Option #[3]}{x nm:Str}{gp:EnvD->Option (List Nat)}
variable {id:String}{r:V->List V->Hp->VK->Prop}{f:List D->List D->Option #[3]}
end
section
variable {ρ:EnvD}{i:Nat}{t:OT}{ga gb:EnvD->Option D}{gs:EnvD->Option #[3]}{gp:EnvD->Option (List Nat)}{ds:List D}{gt':EnvD->Option OT}{gts:EnvD->Option (List OT)}{gl:EnvD->Option #[3]}{α:Type}
@[simp]theorem zi5:gh i ρ=match ρ[i]? with | some (some (.val d))=>some d | some (some (.acc ds))=>some (.lst ds) | some (some (.bor ds))=>some (.lst ds) | some (some (.tre t))=>some t.erase | _=>none:=rfl
@[simp]theorem zmf:gLf ga ρ=(ga ρ).map OT.frz:=rfl
@[simp]theorem zl7:gLs gl ρ=(gl ρ).map λds=>OT.lst (lfs ds):=rfl
@[simp]theorem zlb:tNl ρ=some []:=rfl
@[simp]theorem zka:tCn gt' gts ρ=(gt' ρ).bind λd=>(gts ρ).bind λds=>some (d::ds):=rfl
@[simp]theorem zjb:gTupT gts ρ=(gts ρ).bind λts=>if ts.length<=TOP then some (.tup ts) else none:=rfl
@[simp]theorem zkm:treO (.tre t)=some t:=rfl
@[simp]theorem zkk {d:D}:treO (.val d)=none:=rfl
@[simp]theorem zj4:treO (.acc ds)=none:=rfl
@[simp]theorem zlk:sRetT gt' ρ=(gt' ρ).map λt=>.ret (.tre t):=rfl
@[simp]theorem zmj:(OT.lst (lfs ds)).erase=.lst ds:=by show D.lst (erases (lfs ds))=_;rw[JW]
@[simp]theorem ziu {d:D}:(OT.frz d).erase=d:=by simp[OT.erase]
@[simp]theorem zki {ts:List OT}:(OT.tup ts).erase=.tup (erases ts):=by simp[OT.erase]
@[simp]theorem zml:erases []=[]:=by simp[erases]
@[simp]theorem zl4 {ts:List OT}:erases (t::ts)=t.erase::erases ts:=by simp[erases]
end
section
variable {ρ:EnvD}{i k n m:Nat}{d x y:D}{ds es:List D}{a b j:Int}{α γ:Type}{ga gb gc' g:EnvD->Option D}{ta tb:EnvD->Option Bool}{gs:EnvD->Option #[3]}{s1 s2:SD}{p q:Str}{ns:List Int}
@[simp]theorem zly:fPlus (.int a) (.int b)=some (.int (a+b)):=rfl
@[simp]theorem zik:fPlus (.str p) (.str q)=if p.length+q.length<=TOP then some (.str (p++q)) else none:=rfl
@[simp]theorem zjj:fItem (.lst ds) (.int a)=atI ds a:=rfl
@[simp]theorem zma:fItem (.tup ds) (.int a)=atI ds a:=rfl
@[simp]theorem zlj:fItem (.scr ns) (.int a)=(atI ns a).map D.int:=rfl
theorem Qu:fItem (.str p) (.int a)=if p.length<=TOP then (atI p.cps.toList a).map λc=>.str ⟨#[c]⟩ else none:=rfl
@[simp]theorem zin {gl gh:EnvD->Option (Option Int)}:gSlS g gl gh ρ=(g ρ).bind λd=>(gl ρ).bind λl=>(gh ρ).bind λh=>match d with | .str z=>if z.length<=TOP then some (.str (Txt.slice z l h)) else none | _=>none:=rfl
@[simp]theorem zhw:itL (.scr ns)=some (ns.map D.int):=rfl
@[simp]theorem Gm:fCatS x y=(itL x).bind λxs=>(itL y).bind λys=>if xs.length+ys.length<=TOP then some (xs++ys) else none:=rfl
@[simp]theorem zk9:fInt [.int a]=some (.int a):=rfl
@[simp]theorem zjt {b:Bool}:fInt [.bl b]=some (.int (if b then 1 else 0)):=rfl
@[simp]theorem zic {t:Tgt}:sAsg t g ρ=(g ρ).bind λd=>(asgD t d ρ).map Fl.next:=rfl
@[simp]theorem zkl {f:List D->List D->Option #[3]}:sMut i f gs ρ=match ρ[i]? with | some (some (.acc ds))=>(gs ρ).bind λes=>(f ds es).map λds'=>.next (ρ.set i (some (.acc ds'))) | _=>none:=rfl
@[simp]theorem zhy:tyD (.str p)=some "str" := rfl
@[simp]theorem zkv:isNon (.lst ds)=false:=rfl
@[simp]theorem ziz:fList [.scr ns]=some (ns.map D.int):=rfl
theorem fEqB {neg u v:Bool}:fEq neg (.bl u) (.bl v)=some (.bl (if neg then !(u==v) else (u==v))):=by
 cases neg<;>cases u<;>cases v<;>rfl
theorem kO {t:EnvD->Option Bool}(h:t ρ=some false):whileD t s1 (n+1) ρ=some (.next ρ):=by
 rw[whileD,h];rfl
theorem jE {t:EnvD->Option Bool}{ρ2:EnvD}(h:t ρ=some true)(h2:s1 ρ=some (.next ρ2)):whileD t s1 (n+1) ρ=whileD t s1 n ρ2:=by
 rw[whileD,h]
 show ((s1 ρ).bind _)=_
 rw[h2];rfl
theorem uF {xs:List α}(h:0<=a):cutD xs none (some a)=xs.take a.toNat:=by
 simp only[cutD,HT.sIx]
 rw[if_neg (show ¬a < 0 by omega)]
 simp only[Nat.sub_zero,List.drop_zero]
 by_cases h2:a.toNat<=xs.length
 ·rw[Nat.min_eq_left h2]
 ·rw[Nat.min_eq_right #[1],List.take_of_length_le (Nat.le_refl _),List.take_of_length_le #[1]]
theorem qV {xs:List α}(h:0<=a):cutD xs (some a) none=xs.drop a.toNat:=by
 simp only[cutD,HT.sIx]
 rw[if_neg (show ¬a < 0 by omega)]
 by_cases h2:a.toNat<=xs.length
 ·rw[Nat.min_eq_left h2]
  exact List.take_of_length_le (by simp)
 ·rw[Nat.min_eq_right #[1],List.drop_of_length_le (Nat.le_refl _),List.drop_of_length_le #[1]];simp
theorem zjq {β:Type}{f:α->β}{xs:List α}{l h:Option Int}:cutD (xs.map f) l h=(cutD xs l h).map f:=by
 unfold cutD;simp[List.map_drop,List.map_take]
theorem Vl {xs:List α}(h1:0<=a)(h2:a < xs.length):∃v,atI xs a=some v/\xs[a.toNat]?=some v:=by
 obtain⟨n,rfl⟩:∃n:Nat,a=(n:Int):=⟨a.toNat,by omega⟩
 have hl:n < xs.length:=by omega
 exact⟨xs[n],wm n (List.getElem?_eq_getElem hl),by simp[hl]⟩
theorem zi2 {β:Type}{f:α->β}{xs:List α}:atI (xs.map f) a=(atI xs a).map f:=by
 unfold atI
 rw[List.length_map]
 cases ixN xs.length a with
 |none=>rfl
 |some j=>simp
theorem zk3 {xs:List α}{v:α}(h:atI xs a=some v):v∈xs:=by
 unfold atI at h
 cases q:ixN xs.length a with
 |none=>rw[q] at h;cases h
 |some j=>rw[q] at h;exact List.mem_of_getElem? h
def Tx (n:Nat)(x:Str):Prop:=PyData.strOk x=true/\x.length<=n
theorem Tx.mono {x:Str}(h:Tx n x)(e:n<=m):Tx m x:=⟨h.1,Nat.le_trans h.2 e⟩
theorem Tx.app {x y:Str}(h:Tx n x)(h':Tx m y):Tx (n+m) (x++y):=by
 refine⟨?_,?_⟩
 ·show (x.cps++y.cps).all _=true
  rw[Array.all_append]
  exact Bool.and_eq_true_iff.mpr ⟨h.1,h'.1⟩
 ·show (x.cps++y.cps).size<=n+m
  rw[Array.size_append]
  have h1:=h.2
  have h2:=h'.2
  unfold Str.length at h1 h2
  omega
theorem Tx.slice {x:Str}{l u:Option Int}(h:Tx n x):Tx n (Txt.slice x l u):=by
 refine⟨?_,Nat.le_trans (Txt.slice_le x l u) h.2⟩
 unfold Txt.slice
 split
 ·exact h.1
 ·have h1:=h.1
  unfold PyData.strOk at h1 ⊢
  rw[Array.all_eq_true'] at h1
  rw[Array.all_eq_true']
  intro c hc
  simp only[List.mem_toArray,List.mem_filterMap] at hc
  obtain⟨i,_,e⟩:=hc
  exact h1 c (Array.mem_of_getElem? e)
theorem Tx.item {z:Str}(h:Tx n z)(hn:n<=TOP)(h1:0<=a)(h2:a < z.length):∃c,fItem (.str z) (.int a)=some (.str c)/\Tx 1 c:=by
 have hl:(z.cps.toList.length:Int)=z.length:=by simp[Str.length]
 obtain⟨c,e1,e2⟩:=Vl (xs:=z.cps.toList) h1 #[1]
 refine⟨⟨#[c]⟩,?_,?_,Nat.le_refl _⟩
 ·rw[Qu,if_pos (Nat.le_trans h.2 hn),e1];rfl
 ·have h1:=h.1
  unfold PyData.strOk at h1
  rw[Array.all_eq_true'] at h1
  have:=h1 c (by simpa using List.mem_of_getElem? e2)
  unfold PyData.strOk
  simpa using this
theorem Ub (sep:Str)(hs:PyData.strOk sep=true):∀(rest:List Str) (acc:Array Nat),acc.all (· < 0x110000)=true->(∀y∈rest,PyData.strOk y=true)->(rest.foldl (λacc p=>acc++sep.cps++p.cps) acc).all (· < 0x110000)=true
 | [],_,h,_=>h
 |y::rest,acc,h,hy=>by
  rw[List.foldl_cons]
  refine Ub sep hs rest _ ?_ λz hz=>hy z (by simp[hz])
  rw[Array.all_append,Array.all_append]
  have h2:y.cps.all (· < 0x110000)=true:=hy y (by simp)
  have h3:sep.cps.all (· < 0x110000)=true:=hs
  rw[h,h2,h3];rfl
theorem Tx.join0 {ys:List Str}(h:∀y∈ys,Tx 1 y):Tx ys.length (Txt.join "" ys):=by
 have e0:PyData.strOk ("" : Str)=true:=by decide +kernel
 refine⟨?_,?_⟩
 ·show ((ys.drop 1).foldl (λacc p=>acc++("" : Str).cps++p.cps) (ys.headD Str.empty).cps).all (· < 0x110000)=true
  refine Ub "" e0 (ys.drop 1) _ ?_ λy hy=>(h y (List.mem_of_mem_drop hy)).1
  cases ys with
  |nil=>simp[Str.empty]
  |cons y r=>exact (h y (by simp)).1
 ·show (Builtin.Str.glued "" ys).length<=ys.length
  rw[PySem.size_glued]
  have e1:("" : Str).length=0:=by decide +kernel
  rw[e1,Nat.mul_zero,Nat.add_zero]
  have:∀l:List Str,(∀y∈l,Tx 1 y)->(l.map (·.length)).sum<=l.length:=by
   intro l
   induction l with
   |nil=>intro _;exact Nat.le_refl _
   |cons y r ih=>
    intro hh
    have h1:=(hh y (by simp)).2
    have h2:=ih λz hz=>hh z (by simp[hz])
    simp only[List.map_cons,List.sum_cons,List.length_cons]
    omega
  exact this ys h
theorem zga:∀ {l:List Str},(∀y∈l,Tx 1 y)->(l.map (·.length)).sum<=l.length
 | [],_=>Nat.le_refl _
 |y::r,hh=>by
  have h1:=(hh y (by simp)).2
  have h2:=zga λz hz=>hh z (List.mem_cons_of_mem _ hz)
  simp only[List.map_cons,List.sum_cons,List.length_cons]
  omega
theorem zf1:∀(ys:List Str),asSs (ys.map D.str)=some ys
 | []=>rfl
 |y::ys=>by simp[asSs,zf1 ys]
end
section
variable {X:Cx}{B:Bs}{hb:Hp->Hp}{e a b c o tg:Expr}{es:List Expr}{pos p p2 apos cpos:Pos}{g ga gb go:EnvD->Option D}{gs:EnvD->Option #[3]}{x:Str}
theorem zd2:OpR X (compareOp .IsNot) (λx y H Q=>∃u v,x=.bl u/\y=.bl v/\Q (.bl (!(u==v))) H):=by
 intro pins s σ H x y v u Q I rx ry h
 obtain⟨b,c,rfl,rfl,q⟩:=h
 cases rx
 cases ry
 exact wpAny_pure ⟨.bl (!(b==c)),H,I,by cases b<;>cases c<;>rfl,q⟩
def fIsB (neg:Bool):D->D->Option D
 |.bl u,.bl v=>some (.bl (if neg then !(u==v) else u==v))
 |_,_=>none
theorem zco {K:KW}:OkR K (λx y H Q=>∃u v,x=.bl u/\y=.bl v/\Q (.bl (!(u==v))) H) (pE K) (fIsB true):=by
 intro F H x y dx dy d Q s rx ry e k
 unfold fIsB at e
 split at e
 ·cases e;exact⟨_,_,rx.bl,ry.bl,k _ F H (.refl s) rfl⟩
 ·cases e
end
section
variable {ρ:EnvD}{g:EnvD->Option D}{ds:List D}{a:Int}{u v:Bool}{p q:Str}{neg:Bool}
@[simp]theorem zj5:fIsB neg (.bl u) (.bl v)=some (.bl (if neg then !(u==v) else u==v)):=rfl
end
def dKey:D->Option Key
 |.int i=>some (.inl i)
 |.str x=>some (.inr x)
 |_=>none
def kD:Key->D
 |.inl i=>.int i
 |.inr x=>.str x
theorem YS {d:D}{k:Key}(h:dKey d=some k):d=kD k:=by
 cases d<;>cases h<;>rfl
theorem UX {K:KW}{F:Hp}{k:Key}{v:V}(r:Rp K F (kD k) v):v=kV k:=by cases k<;>exact r
theorem Zq {K:KW}{F H:Hp}{k:Key}{v:V}(r:Rq K F H (kD k) v):v=kV k:=by
 refine UX (r.one λds h=>?_)
 cases k<;>cases h
def lookD (kvs:List (Key×D))(k:Key):Option D:=(kvs.find? λp=>decide (p.1=k)).map (·.2)
def putD (kvs:List (Key×D))(k:Key)(d:D):List (Key×D) :=
 if (kvs.any λp=>decide (p.1=k))=true then kvs.map (λp=>if p.1=k then (p.1,d) else p) else kvs++[(k,d)]
section
variable {K:KW}{F:Hp}
theorem Rkv.length {kvs:List (Key×D)}{vs:List (Key×V)}(r:Rkv K F kvs vs):kvs.length=vs.length:=Paired.length r
theorem Rkv.look {kvs:List (Key×D)}{vs:List (Key×V)}(r:Rkv K F kvs vs)(k:Key):(lookD kvs k=none/\valV vs k=none)∨∃d v,lookD kvs k=some d/\valV vs k=some v/\Rp K F d v:=by
 unfold Rkv at r
 induction r with
 |nil=>exact .inl ⟨rfl,rfl⟩
 | @cons p q ps qs h t ih=>
  by_cases e:p.1=k
  ·refine .inr ⟨p.2,q.2,by simp[lookD,e],Yf (h.1 ▸ e),h.2⟩
  ·rw[show lookD (p::ps) k=lookD ps k by simp[lookD,e],ZB (λz=>e (h.1.trans z))]
   exact ih
theorem Rkv.any {kvs:List (Key×D)}{vs:List (Key×V)}(r:Rkv K F kvs vs)(k:Key):(kvs.any λp=>decide (p.1=k))=(vs.any λp=>decide (p.1=k)):=by
 unfold Rkv at r
 induction r with
 |nil=>rfl
 | @cons p q ps qs h t ih=>simp only[List.any_cons,ih,h.1]
theorem Rkv.repl {k:Key}{d:D}{v:V}(rd:Rp K F d v):∀ {kvs:List (Key×D)} {vs:List (Key×V)},Rkv K F kvs vs->Rkv K F (kvs.map λp=>if p.1=k then (p.1,d) else p) (vs.map λp=>if p.1=k then (p.1,v) else p):=by
 intro kvs vs r
 unfold Rkv at r ⊢
 induction r with
 |nil=>exact .nil
 | @cons p q ps qs h t ih=>
  refine .cons ?_ ih
  show (if p.1=k then (p.1,d) else p).1=(if q.1=k then (q.1,v) else q).1/\Rp K F (if p.1=k then (p.1,d) else p).2 (if q.1=k then (q.1,v) else q).2
  by_cases e:p.1=k
  ·rw[if_pos e,if_pos (h.1.symm.trans e)];exact⟨h.1,rd⟩
  ·rw[if_neg e,if_neg (λz=>e (h.1.trans z))];exact h
theorem Rkv.put {kvs:List (Key×D)}{vs:List (Key×V)}(r:Rkv K F kvs vs)(k:Key){d:D}{v:V}(rd:Rp K F d v):Rkv K F (putD kvs k d) (putK vs k v):=by
 unfold putD putK
 rw[r.any k]
 by_cases q:(vs.any λp=>decide (p.1=k))=true
 ·rw[if_pos q,if_pos q];exact r.repl rd
 ·rw[if_neg q,if_neg q];exact Paired.snoc r ⟨rfl,rd⟩
end
def pD (K:KW):Post (List (Key×D)):=λ_ H F' H' kvs v=>∃a ob vs,v=.ref a/\H a=none/\H' a=some (DX K.w a ob vs)/\F' a=none/\Rkv K F' kvs vs
def pK (K:KW):Post (List (Key×D)):=λ_ _ F' H' kvs v=>∃a ob vs,v=.ref a/\H' a=some (DX K.w a ob vs)/\Rkv K F' kvs vs
def DD (X:Cx)(B:Bs)(e:Expr)(g:EnvD->Option (List (Key×D))):Prop:=PE X e (lG X.kw B (pD X.kw) g)
def DK (X:Cx)(B:Bs)(e:Expr)(g:EnvD->Option (List (Key×D))):Prop:=PE X e (lG X.kw B (pK X.kw) g)
section
variable {X:Cx}{B:Bs}{e a b c o i:Expr}{es:List Expr}{pos p apos cpos pos':Pos}{g ga gi gv':EnvD->Option D}{gk gk2:EnvD->Option (List (Key×D))}{gs gxs:EnvD->Option #[3]}{x:Str}
def gk' (i:Nat):EnvD->Option (List (Key×D)):=λρ=>match ρ[i]? with
 |some (some (.dct _ kvs))=>some kvs
 |some (some (.dbo kvs))=>some kvs
 |_=>none
theorem yj (i:Nat)(h:PE X (.Name x pos) (tVar i)):DK X B (.Name x pos) (gk' i) :=
 zt h λσ H Q ⟨F,ρ,d,r,hg,k⟩=>by
  unfold gk' at hg
  split at hg
  ·rename_i oa kvs e
   cases hg
   obtain⟨v,h1,a,ob,vs,e1,e2,e3,e4,e5,e6⟩:=r.ents i _ e
   exact⟨v,h1,k v F H (.refl r.fh) ⟨a,ob,vs,e1,e2,e5⟩⟩
  ·rename_i kvs e
   cases hg
   obtain⟨v,h1,a,ob,vs,e1,e2,e5⟩:=r.ents i _ e
   exact⟨v,h1,k v F H (.refl r.fh) ⟨a,ob,vs,e1,r.ex.hh _ _ e2,e5⟩⟩
  ·cases hg
def gNewD:EnvD->Option (List (Key×D)):=λ_=>some []
theorem Wq:DD X B (.Dict [] [] pos) gNewD:=zt zbz λσ H Q ⟨F,ρ,d,r,hg,k⟩=>by
 cases hg
 exact λq ob hn=>k _ F _ (.new r.fh hn) ⟨q,ob,[],rfl,hn,zy,r.fh.free hn,.nil⟩
def gGetD (gk:EnvD->Option (List (Key×D)))(gi:EnvD->Option D):EnvD->Option D:=λρ=>(gk ρ).bind λkvs=>((gi ρ).bind dKey).bind λk=>lookD kvs k
theorem yR (ho:DK X B o gk)(hi:DR X B i gi)(hs:NoSl i:=by intro _ _;rfl):DE X B (.Subscript o i pos) (gGetD gk gi) :=
 zt (zc8 ho hi hs) λσ H Q ⟨F,ρ,d,r,hg,k⟩=>by
  unfold gGetD at hg
  cases q1:gk ρ with
  |none=>rw[q1] at hg;cases hg
  |some kvs=>
   cases q2:gi ρ with
   |none=>rw[q1,q2] at hg;cases hg
   |some di=>
    rw[q1,q2] at hg
    have hg:((dKey di).bind λk=>lookD kvs k)=some d:=hg
    cases q3:dKey di with
    |none=>rw[q3] at hg;cases hg
    |some ky=>
     rw[q3] at hg
     have hL:lookD kvs ky=some d:=hg
     clear hg
     have hd:=YS q3
     subst hd
     refine⟨F,ρ,kvs,r,q1,λv F1 H1 e1 ⟨a,ob,vs,h1,h2,h3⟩=>⟨F1,ρ,_,r.ext e1,q2,λu F2 H2 e2 p2=>?_⟩⟩
     have h3':=h3.mono e2.ff
     rcases h3'.look ky with⟨z,_⟩ | ⟨d',w,z1,z2,z3⟩
     ·rw[z] at hL;cases hL
     ·rw[z1] at hL;cases hL
      exact⟨a,ob,vs,ky,w,h1,e2.hh _ _ h2,Zq p2,z2,k w F2 H2 (e1.trans e2) z3⟩
def gInD (neg:Bool)(gi:EnvD->Option D)(gk:EnvD->Option (List (Key×D))):EnvD->Option D:=λρ=>((gi ρ).bind dKey).bind λk=>(gk ρ).map λkvs=>.bl (neg ^^ (lookD kvs k).isSome)
theorem zai {neg:Bool}{ρ:EnvD}{d:D}(hg:gInD neg gi gk ρ=some d):∃ky kvs,gi ρ=some (kD ky)/\gk ρ=some kvs/\d=.bl (neg ^^ (lookD kvs ky).isSome):=by
 unfold gInD at hg
 cases q2:gi ρ with
 |none=>rw[q2] at hg;cases hg
 |some di=>
  rw[q2] at hg
  have hg:((dKey di).bind λk=>(gk ρ).map λkvs=>D.bl (neg ^^ (lookD kvs k).isSome))=some d:=hg
  cases q3:dKey di with
  |none=>rw[q3] at hg;cases hg
  |some ky=>
   rw[q3] at hg
   cases q1:gk ρ with
   |none=>rw[q1] at hg;cases hg
   |some kvs=>
    rw[q1] at hg
    cases hg
    exact⟨ky,kvs,by rw[YS q3],rfl,rfl⟩
theorem zfd {K:KW}{F:Hp}{kvs:List (Key×D)}{vs:List (Key×V)}(r:Rkv K F kvs vs)(k:Key):(valV vs k).isSome=(lookD kvs k).isSome:=by
 rcases r.look k with⟨z1,z2⟩ | ⟨d,w,z1,z2,_⟩<;>rw[z1,z2]<;>rfl
def sPutD (j:Nat)(gi g:EnvD->Option D):SD:=λρ=>match ρ[j]? with
 |some (some (.dct oa kvs))=>(g ρ).bind λd=>((gi ρ).bind dKey).bind λk=>if kvs.length < sizeLine then some (.next (ρ.set j (some (.dct oa (putD kvs k d))))) else none
 |_=>none
theorem qO (j:Nat)(hx:PE X #[11] (tVar j))(hi:DR X B i gi)(he:DE X B e g)(hs:swapsWith e (some (.Subscript #[11] i pos')) pos.line X.env=pure false:=by rfl) :
  DS X B (.Assign [.Subscript #[11] i pos'] e pos) (sPutD j gi g) :=
 zD (RP hx hi he hs) λE σ H ⟨F,ρ,fl,r,hg,k⟩=>by
  unfold sPutD at hg
  split at hg
  ·rename_i oa kvs q
   cases q2:g ρ with
   |none=>rw[q2] at hg;cases hg
   |some d=>
    cases q3:gi ρ with
    |none=>rw[q2,q3] at hg;cases hg
    |some di=>
     rw[q2,q3] at hg
     have hg:((dKey di).bind λk=>if kvs.length < sizeLine then some (Fl.next (ρ.set j (some (.dct oa (putD kvs k d))))) else none)=some fl:=hg
     cases q4:dKey di with
     |none=>rw[q4] at hg;cases hg
     |some ky=>
      rw[q4] at hg
      have hg:(if kvs.length < sizeLine then some (Fl.next (ρ.set j (some (.dct oa (putD kvs ky d))))) else none)=some fl:=hg
      split at hg
      ·rename_i hz
       cases hg
       have hd:=YS q4
       subst hd
       refine⟨F,ρ,d,r,q2,λw F1 H1 e1 p1=>?_⟩
       have r1:=r.ext e1
       obtain⟨v,hv,_⟩:=r1.ents j _ q
       refine⟨v,hv,F1,ρ,_,r1,q3,λu F2 H2 e2 p2=>?_⟩
       have r2:=r1.ext e2
       obtain⟨v',hv',a,ob,vs,e',f1,f2,f3,f4,f5⟩:=r2.ents j _ q
       rw[hv] at hv';cases hv';subst e'
       refine⟨a,ob,vs,ky,rfl,f1,Zq p2,by rw[<-f4.length];exact hz,λob'=>k σ F2 _ ?_ (e1.ff.trans e2.ff)⟩
       exact r2.write q rfl hv f2 f3 ⟨a,ob',_,rfl,zy,f2,f3,f4.put ky (Rp.mono e2.ff p1),f5⟩ rfl
      ·cases hg
  ·cases hg
end
section
variable {X:Cx}{B:Bs}{e a b c o i:Expr}{es:List Expr}{pos p apos cpos pos':Pos}{g ga gi gv':EnvD->Option D}{gk gk2:EnvD->Option (List (Key×D))}{gs:EnvD->Option #[3]}{gxs:EnvD->Option (List En)}{x:Str}
def sSetD (j:Nat)(g:EnvD->Option (List (Key×D))):SD:=λρ=>(g ρ).map λkvs=>.next (ρ.set j (some (.dct none kvs)))
theorem zc9 {K:KW}{F H:Hp}{σ:St}{ρ:EnvD}{F1 H1:Hp}(r:Rep K B F σ H ρ)(e:Ext F H F1 H1){a:Addr}(n:H a=none):∀(j:Nat) y w,ρ[j]?=some (some y)->σ[j]?=some (some w)->a∉feetE H1 y w:=λj y w h1 h2 ha=>by
 obtain⟨w',q,ry⟩:=r.ents j y h1
 rw[h2] at q;cases q
 rw[ry.feet_ext e.hh] at ha
 exact (ry.feet_at ha).1 n
theorem xt {j:Nat}{y:Str}{pos':Pos}(hN:X.N.Nodup)(hi:X.N[j]?=some y)(hx:Loc X.env.scope y)(he:DD X B e gk)(hs:swapsWith e (some (.Name y pos')) pos.line X.env=pure false:=by rfl)(hf:X.fn y=true∨X.env.scope.names.lookup y=some .local:=by first | exact .inl rfl | exact .inr rfl) :
  DS X B (.Assign [.Name y pos'] e pos) (sSetD j gk):=zD (wk hN hi hx he hs hf) λE σ H ⟨F,ρ,fl,r,hg,k⟩=>by
 unfold sSetD at hg
 cases q:gk ρ with
 |none=>rw[q] at hg;cases hg
 |some kvs=>
  rw[q] at hg
  cases hg
  refine⟨F,ρ,kvs,r,q,λv F1 H1 e1 ⟨a,ob,vs,h1,h2,h3,h4,h5⟩=>k _ F1 H1 ((r.ext e1).seto (x:=.dct none kvs) ⟨a,ob,vs,h1,h3,h4,r.ex.hh.free h2,h5,λ_ z=>nomatch z⟩ λj' y w q1 q2 _ b hb=>?_) e1.ff⟩
  subst h1
  simp only[feetE,List.mem_singleton] at hb
  subst hb
  exact zc9 r e1 h2 j' y w q1 q2
def sRetVD (j:Nat):SD:=λρ=>match ρ[j]? with
 |some (some (.dct none kvs))=>some (.ret (.dct none kvs))
 |_=>none
theorem Yd (j:Nat)(h:PE X #[11] (tVar j)):DS X B (.Return (some #[11]) pos) (sRetVD j):=zD (v9 h) λE σ H ⟨F,ρ,fl,r,hg,k⟩=>by
 unfold sRetVD at hg
 split at hg
 ·rename_i ds q
  cases hg
  obtain⟨v,h1,h2⟩:=r.ents j _ q
  exact⟨v,h1,k v F H r.ex h2⟩
 ·cases hg
def dctO:En->Option (List (Key×D))
 |.dct _ kvs=>some kvs
 |_=>none
theorem zen {n:Nat}{m:List En->Option En}(hm:∀xs o,m xs=some o->xs.length=n){E:XK}{σ:St}{H:Hp}{Q:VK}(h:lG X.kw B (pD X.kw) (gCall m dctO gxs) σ H Q):tCall (pSp X.kw n m) [] E (lNs X.kw B gxs) σ H Q:=by
 obtain⟨F,ρ,d,r,hg,k⟩:=h
 obtain⟨xs,o,q1,q2,q3⟩:=bindC hg
 refine⟨F,ρ,xs,r,q1,λvs F1 H1 e1 p1=>?_⟩
 show pSp X.kw n m (vs++[]) H1 Q E
 rw[List.append_nil]
 refine⟨F1,xs,o,e1.fh,hm xs o q2,p1,q2,λv F2 H2 e2 p2=>?_⟩
 cases o with
 |dct oa kvs=>
  cases q3
  obtain⟨a,ob,ws,h1,h2,h3,h4,h5,h6⟩:=p2
  exact k v F2 H2 (e1.trans e2) ⟨a,ob,ws,h1,e1.hh.free h4,h2,h3,h5⟩
 |_=>cases q3
variable {k n:Nat}{m:List En->Option En}
theorem ud (h:Fx X.prog X.w X.kw X.mg X.base x k n m)(hr:Room k X.A)(hg:Gl X x)(ha:DNs X B (e::es) gxs)(hdb:#[20]=false:=by decide +kernel)
  (he:starEach (e::es) X.env=(false,eval e X.env)::starEach es X.env:=by rfl) (hpl:#[24].any (·.1)=false:=by rfl):DD X B #[26] (gCall (len? n m) dctO gxs):=by
 obtain⟨f,fd,ps,F,hm,hk,hb⟩:=h.ex
 exact zt (jM F hr hg hm hk hb .nil pass0 ha hdb he hpl) λσ H Q h=>zen we h
end
section
variable {K:KW}{F:Hp}
end
section
variable {X:Cx}{B:Bs}{e a b c o i tg:Expr}{es:List Expr}{pos p apos cpos pos':Pos}{g ga gi gv':EnvD->Option D}{gk gk2:EnvD->Option (List (Key×D))}{gs:EnvD->Option #[3]}{x:Str}
end
section
variable {X:Cx}{B:Bs}{e a b c o i tg:Expr}{es:List Expr}{pos p apos cpos pos':Pos}{g ga gi gv':EnvD->Option D}{gk gk2:EnvD->Option (List (Key×D))}{gs:EnvD->Option #[3]}{x:Str}
theorem J0 {op:CmpOp}{t:TE}(h:PC X op a b t)(k:∀σ H Q,lG X.kw B (pE X.kw) g σ H Q->t σ H Q)(hm:behindInMarks op b=false):DT X B (.Compare a [op] [b] pos) (gb' g) :=
 ut (zfm h hm) λσ H Q ⟨F,ρ,y,r,hg,k'⟩=>by
  unfold gb' at hg
  cases q:g ρ with
  |none=>rw[q] at hg;cases hg
  |some d=>
   rw[q] at hg
   have hd:d=.bl y:=by
    cases d<;>cases hg
    rfl
   subst hd
   exact k σ H _ ⟨F,ρ,_,r,q,λv F' H' e p=>⟨y,p,k' F' H' e⟩⟩
theorem G5 {σ:St}{H:Hp}{Q:VK}(h:lG X.kw B (pE X.kw) (gInD false gi gk) σ H Q):tXIn X.prog X.w (lG X.kw B (pR X.kw) gi) (lG X.kw B (pK X.kw) gk) σ H Q:=by
 obtain⟨F,ρ,d,r,hg,k⟩:=h
 obtain⟨ky,kvs,q1,q2,rfl⟩:=zai hg
 refine⟨F,ρ,_,r,q1,λu F1 H1 e1 p1=>⟨F1,ρ,kvs,r.ext e1,q2,λv F2 H2 e2 ⟨a,ob,vs,h1,h2,h3⟩=>⟨a,ob,vs,ky,h1,h2,Zq p1,?_⟩⟩⟩
 rw[zfd h3]
 exact k _ F2 H2 (e1.trans e2) (by simp;rfl)
theorem Vg (hi:DR X B i gi)(ho:DK X B o gk)(hm:behindInMarks .In o=false:=by rfl):DT X B (.Compare i [.In] [o] pos) (gb' (gInD false gi gk)):=J0 (RZ hi ho) (λ_ _ _ h=>G5 h) hm
def asKI:List (Key×D)->Option (List (Key×Int))
 | []=>some []
 | (k,.int j)::r=>(asKI r).map ((k,j)::·)
 |_=>none
theorem uY {K:KW}{F:Hp}:∀ {kvs:List (Key×D)} {vs:List (Key×V)} {kis:List (Key×Int)},Rkv K F kvs vs->asKI kvs=some kis->vs=intsV kis
 | [],_,_,r,e=>by cases e;cases r;rfl
 |p::kvs,_,kis,r,e=>by
  cases r with
  | @cons _ q _ qs h t=>
   obtain⟨k,d⟩:=p
   obtain⟨k',v⟩:=q
   unfold asKI at e
   split at e
   ·rename_i heq;cases heq
   ·rename_i k2 j r2 heq
    cases heq
    cases q2:asKI kvs with
    |none=>rw[q2] at e;cases e
    |some ks=>
     rw[q2] at e
     cases e
     have h1:k=k':=h.1
     have h2:v=.int j:=h.2
     subst h1 h2
     rw[uY t q2]
     rfl
   ·cases e
def gEqD (neg:Bool)(ga gb:EnvD->Option (List (Key×D))):EnvD->Option D:=λρ=>(ga ρ).bind λx=>(gb ρ).bind λy=>(asKI x).bind λka=>(asKI y).map λkb=>.bl (neg ^^ eqI ka kb)
theorem zc4 {neg:Bool}{ga gb:EnvD->Option (List (Key×D))}{ρ:EnvD}{d:D}(h:gEqD neg ga gb ρ=some d):∃x y ka kb,ga ρ=some x/\gb ρ=some y/\asKI x=some ka/\asKI y=some kb/\d=.bl (neg ^^ eqI ka kb):=by
 unfold gEqD at h
 cases q1:ga ρ with
 |none=>rw[q1] at h;cases h
 |some x=>
  cases q2:gb ρ with
  |none=>rw[q1,q2] at h;cases h
  |some y=>
   rw[q1,q2] at h
   have h:((asKI x).bind λka=>(asKI y).map λkb=>D.bl (neg ^^ eqI ka kb))=some d:=h
   cases q3:asKI x with
   |none=>rw[q3] at h;cases h
   |some ka=>
    rw[q3] at h
    have h:((asKI y).map λkb=>D.bl (neg ^^ eqI ka kb))=some d:=h
    cases q4:asKI y with
    |none=>rw[q4] at h;cases h
    |some kb=>
     rw[q4] at h
     cases h
     exact⟨x,y,ka,kb,rfl,rfl,q3,q4,rfl⟩
theorem ze2 {neg:Bool}{σ:St}{H:Hp}{Q:VK}(h:lG X.kw B (pE X.kw) (gEqD neg gk gk2) σ H Q):tXEq X.prog X.w neg (lG X.kw B (pK X.kw) gk) (lG X.kw B (pK X.kw) gk2) σ H Q:=by
 obtain⟨F,ρ,d,r,hg,k⟩:=h
 obtain⟨x,y,ka,kb,q1,q2,q3,q4,rfl⟩:=zc4 hg
 refine⟨F,ρ,_,r,q1,λu F1 H1 e1 ⟨a,oa,va,h1,h2,h3⟩=>⟨F1,ρ,_,r.ext e1,q2,λv F2 H2 e2 ⟨b,ob,vb,g1,g2,g3⟩=>?_⟩⟩
 have ea:=uY h3 q3
 have eb:=uY g3 q4
 subst ea eb
 exact⟨a,b,oa,ob,ka,kb,h1,g1,e2.hh _ _ h2,g2,k _ F2 H2 (e1.trans e2) rfl⟩
theorem Uf (hu:X.A.units < cLine)(ha:DK X B a gk)(hb:DK X B b gk2)(hm:behindInMarks .NotEq b=false:=by rfl):DT X B (.Compare a [.NotEq] [b] pos) (gb' (gEqD true gk gk2)):=J0 (zbf hu ha hb) (λ_ _ _ h=>ze2 h) hm
end
def Qs (H:Hp)(a:Addr):Hp:=λb=>if b=a then none else H b
def lSp (K:KW)(n:Nat)(m:Addr->List (Key×D)->List En->Option (List (Key×D))):Sp:=λvs H Q _=>
 ∃F kvs xs kvs' a ob ws us,vs=.ref a::us/\Same F H/\F a=none/\H a=some (DX K.w a ob ws)/\Rkv K F kvs ws/\xs.length+1=n/\Paired (λx v=>ArgE K F (Qs H a) x v) xs us/\m a kvs xs=some kvs' /\
  ∀F' H' ob' ws',Ext F (Qs H a) F' H'->H' a=some (DX K.w a ob' ws')->F' a=none->Rkv K F' kvs' ws'->Q .non H'
section
variable {P:Program}{w:World}{K:PySem.W.Frag}{mg:Str->Option Value}{base:Heap}
structure Lx (P:Program)(w:World)(K:PySem.W.Frag)(mg:Str->Option Value)(base:Heap)(x:Str)(k n:Nat)(m:List (Key×D)->List En->Option (List (Key×D))):Prop where
 ex:∃f fd ps m',FnOk P w K mg base CX0 k f fd ps (lSp ⟨K,w⟩ n m')/\mg x=some (.ref f)/\keepIn K (.ref f)=true/\Binds K fd ps []/\∀a kvs xs,xs.length+1=n->m' a kvs xs=m kvs xs
end
section
variable {X:Cx}{B:Bs}{es:List Expr}{pos p p1 cpos:Pos}{gxs:EnvD->Option (List En)}{x y:Str}{k n:Nat}{m:List (Key×D)->List En->Option (List (Key×D))}
end
def fRep:D->D->Option #[3]
 |.lst ds,.int k=>if k.natAbs<=100000/\ds.length * k.toNat<=TOP then some (List.replicate k.toNat ds).flatten else none
 |_,_=>none
theorem Rps.rep {K:KW}{F:Hp}{ds:List D}{vs:List V}(r:Rps K F ds vs):∀n,Rps K F (List.replicate n ds).flatten (List.replicate n vs).flatten
 |0=>rfl
 |n+1=>by
  rw[List.replicate_succ,List.flatten_cons,List.replicate_succ,List.flatten_cons]
  exact r.append (Rps.rep r n)
theorem zct {K:KW}:OkR K rRep (pA K) fRep:=by
 intro F H x y dx dy d Q s rx ry e k
 unfold fRep at e
 split at e
 ·rename_i ds n
  split at e
  ·rename_i hc
   cases e
   obtain⟨a,vs,rfl,h1,h2⟩:=rx.lst s
   cases ry.int
   refine⟨a,n,vs,rfl,rfl,h1,by omega,by omega,yk (by rw[<-h2.length];exact hc.2),λp hp=>k _ F _ (.new s hp) ⟨p,_,rfl,hp,zy,s.free hp,h2.rep _⟩⟩
  ·cases e
 ·cases e
section
variable {X:Cx}{B:Bs}{a b:Expr}{pos:Pos}{ga gb:EnvD->Option D}
theorem Y5 (ha:DR X B a ga)(hb:DR X B b gb):DA X B (.BinOp a .Mult b pos) (g2 fRep ga gb):=Vo zhq zct ha hb
end
section
variable {ρ:EnvD}{i j n:Nat}{d:D}{ds:List D}{kvs:List (Key×D)}{oa:Option Addr}{gi g:EnvD->Option D}{gk gk2:EnvD->Option (List (Key×D))}{gs:EnvD->Option #[3]}
@[simp]theorem zj8:gk' i ρ=match ρ[i]? with | some (some (.dct _ kvs))=>some kvs | some (some (.dbo kvs))=>some kvs | _=>none:=rfl
@[simp]theorem zln:gNewD ρ=some []:=rfl
@[simp]theorem zmk:gGetD gk gi ρ=(gk ρ).bind λkvs=>((gi ρ).bind dKey).bind λk=>lookD kvs k:=rfl
@[simp]theorem zih {neg:Bool}:gInD neg gi gk ρ=((gi ρ).bind dKey).bind λk=>(gk ρ).map λkvs=>.bl (neg ^^ (lookD kvs k).isSome):=rfl
@[simp]theorem zl0 {neg:Bool}:gEqD neg gk gk2 ρ=(gk ρ).bind λx=>(gk2 ρ).bind λy=>(asKI x).bind λka=>(asKI y).map λkb=>.bl (neg ^^ eqI ka kb):=rfl
@[simp]theorem zmo:sSetD j gk ρ=(gk ρ).map λkvs=>.next (ρ.set j (some (.dct none kvs))):=rfl
@[simp]theorem zke:sRetVD j ρ=match ρ[j]? with | some (some (.dct none kvs))=>some (.ret (.dct none kvs)) | _=>none:=rfl
@[simp]theorem zi3:sPutD j gi g ρ=match ρ[j]? with | some (some (.dct oa kvs))=>(g ρ).bind λd=>((gi ρ).bind dKey).bind λk=>if kvs.length < sizeLine then some (.next (ρ.set j (some (.dct oa (putD kvs k d))))) else none | _=>none:=rfl
@[simp]theorem zkx:dctO (.dct oa kvs)=some kvs:=rfl
@[simp]theorem zhu {x:Str}:dKey (.str x)=some (.inr x):=rfl
@[simp]theorem zhr {k:Int}:dKey (.int k)=some (.inl k):=rfl
@[simp]theorem Gu {k:Int}:fRep (.lst ds) (.int k)=if k.natAbs<=100000/\ds.length * k.toNat<=TOP then some (List.replicate k.toNat ds).flatten else none:=rfl
end
end Dv
namespace L4
open PySem PySem.Spec L2 L3
open PyProof.Rows hiding St
end L4
namespace Dv
open PySem PySem.Spec L2 L3 L4
open PyProof.Rows hiding St
def gNev:EnvD->Option D:=λ_=>none
section
variable {X:Cx}{B:Bs}{e a b c o i tg st:Expr}{es elts:List Expr}{pos p p2 apos cpos pos' tpos:Pos}{tk:Nat}{g ga gi gv':EnvD->Option D}{gk gk2:EnvD->Option (List (Key×D))}{gs:EnvD->Option #[3]}{gxs:EnvD->Option (List En)}{x:Str}
theorem zdw:DE X B e gNev:=λpins s σ H Q I ⟨F,ρ,d,r,hg,k⟩=>by cases hg
def mN (m:List En->Option En):List En->Option En:=λxs=>m (xs++[.val .non])
end
structure FunD (K:PySem.W.Frag)(x qual:Str)(st:Stmt)(f:Addr)(fd:FuncData):Prop where
 ex:∃(oc dV:Value) (od:Option Addr) (kV doc pm:Value) (an:Option Addr) (cdv ct:Value) (osl:Array #[8]),
  fd=fnOf x qual (zn st) (zk st) (zd st) dV kV doc pm an cdv ct/\K.lookup f=some ⟨oc,od,.func fd,osl⟩/\codeIn K cdv qual=true
 kp:keepIn K (.ref f)=true
section
variable {P:Program}{w:World}{K:PySem.W.Frag}{mg:Str->Option Value}{base:Heap}
theorem FunD.ok {x qual:Str}{st:Stmt}{f:Addr}{fd:FuncData}{N ps:List Str}{k:Nat}{sp:Sp}(F:FunD K x qual st f fd)(S:FnScope N ps (zd st))(len:∀vs H Q E,sp vs H Q E->vs.length=ps.length)
  (hbody:∀(cdv:Value) (A:Around) (outer:List Env) (s:Shared) (H:Hp) (vs:List V) (Q:VK) (E:XK),Room k (A.deeper (envOfC qual (zd st) s.heap.objs.size f cdv))->sp vs H Q E ->
   ∃t,PSs (cxOf CX0 P w K mg base N qual (zd st) f cdv A outer s H E).nox (zk st) t/\t { nx:=λ_ H'=>Q .non H',rt:=Q } (L2.start N vs) H):FnOk P w K mg base CX0 (k+1) f fd ps sp:=by
 obtain⟨oc,dV,od,kV,doc,pm,an,cdv,ct,osl,rfl,lk,hcd⟩:=F.ex
 refine Zw lk hcd S len λA outer s H vs Q E hr hsp=>?_
 obtain⟨t,h,q⟩:=hbody cdv A outer s H vs Q E hr hsp
 exact⟨t,h.nox,q⟩
theorem zcg {x qual:Str}{st:Stmt}{f:Addr}{oc dV:Value}{od an:Option Addr}{osl:Array #[8]}{kV doc pm cdv ct:Value}(l:K.lookup f=some ⟨oc,od,.func (fnOf x qual (zn st) (zk st) (zd st) dV kV doc pm an cdv ct),osl⟩)
  (c:codeIn K cdv qual=true) (k:keepIn K (.ref f)=true):FunD K x qual st f (fnOf x qual (zn st) (zk st) (zd st) dV kV doc pm an cdv ct):=⟨⟨oc,dV,od,kV,doc,pm,an,cdv,ct,osl,rfl,l,c⟩,k⟩
theorem zfn {x qual:Str}{st:Stmt}{f:Addr}{fd:FuncData}{N ps:List Str}{k:Nat}{g:SD}(F:FunD K x qual st f fd)(S:FnScope N ps (zd st))
  (hb:∀(cdv:Value) (A:Around) (outer:List Env) (s:Shared) (H:Hp) (E:XK) (B:Bs),Room k (A.deeper (envOfC qual (zd st) s.heap.objs.size f cdv)) ->
   DSs (cxOf CX0 P w K mg base N qual (zd st) f cdv A outer s H E).nox B (zk st) g) :
  FnOk P w K mg base CX0 (k+1) f fd ps (pSp ⟨K,w⟩ ps.length (len? ps.length (mir N g))):=by
 refine F.ok S (λvs H Q E h=>?_) (λcdv A outer s H vs Q E hr h=>?_)
 ·obtain⟨F,xs,o,_,hl,hp,_⟩:=h
  rw[<-vI hp];exact hl
 ·obtain⟨F0,xs,o,fh,hl,hp,hm,k⟩:=h
  refine⟨_,hb cdv A outer s H E ⟨F0,H⟩ hr,?_⟩
  have hm:mir N g xs=some o:=by
   unfold len? at hm
   rw[if_pos hl] at hm
   exact hm
  unfold mir at hm
  cases q:g (stE N (xs.map some)) with
  |none=>rw[q] at hm;cases hm
  |some fl=>
   rw[q] at hm
   refine⟨F0,_,fl,ur (ps:=ps) fh hp,q,?_⟩
   cases fl with
   |next ρ=>cases hm;exact λσ' F' H' r s=>k .non F' H' r.ex rfl
   |ret o'=>cases hm;exact λv F' H' e p=>k v F' H' e p
   |brk ρ=>cases hm
   |cont ρ=>cases hm
structure FxN (P:Program)(w:World)(K:PySem.W.Frag)(mg:Str->Option Value)(base:Heap)(x:Str)(k n:Nat)(m:List En->Option En):Prop where
 ex:∃f fd ps,FnOk P w K mg base CX0 k f fd ps (pSp ⟨K,w⟩ n (len? n m))/\mg x=some (.ref f)/\keepIn K (.ref f)=true/\Binds K fd ps [.none]
end
section
variable {X:Cx}{B:Bs}{e:Expr}{es:List Expr}{pos p:Pos}{gxs:EnvD->Option (List En)}{x:Str}{k n:Nat}{m:List En->Option En}
theorem RC {K:KW}{F H:Hp}{xs:List En}{vs:List V}(h:Paired (λx v=>ArgE K F H x v) xs vs):Paired (λx v=>ArgE K F H x v) (xs++[.val .non]) (vs++[.non]):=Paired.snoc h rfl
theorem zfk (h:FxN X.prog X.w X.kw X.mg X.base x k (n+1) m)(hr:Room k X.A)(hg:Gl X x)(ha:DNs X B (e::es) gxs)(hdb:#[20]=false:=by decide +kernel)
  (he:starEach (e::es) X.env=(false,eval e X.env)::starEach es X.env:=by rfl) (hpl:#[24].any (·.1)=false:=by rfl):DA X B #[26] (gCall (len? n (mN m)) accO gxs):=by
 obtain⟨f,fd,ps,F,hm,hk,hb⟩:=h.ex
 refine zt (jM F hr hg hm hk hb (dvs:=[.non]) (.cons rfl .nil) pass0 ha hdb he hpl) λσ H Q ⟨F,ρ,d,r,hg,k⟩=>?_
 obtain⟨xs,o,q1,q2,q3⟩:=bindC hg
 refine⟨F,ρ,xs,r,q1,λvs F1 H1 e1 p1=>?_⟩
 have hl:xs.length=n:=we xs o q2
 have hm:m (xs++[.val .non])=some o:=by
  unfold len? at q2
  rw[if_pos hl] at q2
  exact q2
 refine⟨F1,xs++[.val .non],o,e1.fh,by simp[hl],RC p1,by unfold len?;rw[if_pos (by simp[hl])];exact hm,λv F2 H2 e2 p2=>?_⟩
 cases o with
 |acc ds=>
  cases q3
  obtain⟨a,ws,h1,h2,h3,h4,h5⟩:=p2
  exact k v F2 H2 (e1.trans e2) ⟨a,ws,h1,e1.hh.free h4,h2,h3,h5⟩
 |_=>cases q3
end
section
variable {ρ:EnvD}{g gi:EnvD->Option D}{m:List En->Option En}{xs:List En}
@[simp]theorem zh7:gNev ρ=none:=rfl
@[simp]theorem zh8:mN m xs=m (xs++[.val .non]):=rfl
end
section
variable {X:Cx}{B:Bs}{e c tg iter:Expr}{pos p1 p2:Pos}{ge:EnvD->Option D}{t:EnvD->Option Bool}{gi:EnvD->Option #[3]}{gbd:SD}
end
end Dv
namespace L4
open PySem PySem.Spec L2 L3
open PyProof.Rows hiding St
section
variable {prog:Program}{w:World}{A:Around}{E:Value->Shared->Prop}{s:Shared}
end
section
variable {X:Cx}{o a b:Expr}{pos p2:Pos}{to ta tb:TE}
end
end L4
namespace Dv
open PySem PySem.Spec L2 L3 L4
open PyProof.Rows hiding St
section
variable {X:Cx}{B:Bs}{e ae be:Expr}{p p2 tpos pos:Pos}{ga gb:EnvD->Option D}{gl:EnvD->Option #[3]}{x:Str}
end
section
variable {X:Cx}{B:Bs}{hb:Hp->Hp}{e a b c o tg:Expr}{es:List Expr}{pos p p2 apos cpos:Pos}{g ga gb go:EnvD->Option D}{gs:EnvD->Option #[3]}{x:Str}
end
section
variable {X:Cx}{B:Bs}{hb:Hp->Hp}{e a b c o tg:Expr}{es:List Expr}{pos p p2 apos cpos:Pos}{g ga gb go:EnvD->Option D}{gs:EnvD->Option #[3]}{x:Str}
end
end Dv
namespace L4
open PySem PySem.Spec L2 L3
open PyProof.Rows hiding St
section
variable {prog:Program}{w:World}{A:Around}{E:Value->Shared->Prop}{s:Shared}{T:String}{r d:Addr}{n:Nat}{P:Nat->Value->Prop}{OK:Heap->Prop}
end
end L4
namespace Dv
open PySem PySem.Spec L2 L3 L4
open PyProof.Rows hiding St
section
variable {X:Cx}{B:Bs}{o:Expr}{pos p:Pos}{gk:EnvD->Option (List (Key×D))}{x:Str}
end
section
variable {K:KW}{B:Bs}{F H:Hp}{σ:St}{ρ:EnvD}
end
section
variable {X:Cx}{B:Bs}{tg e ck:Expr}{es:List Expr}{x y nm:Str}{pos p2 p3 p4 p5 apos cpos:Pos}{id:String}{r:V->List V->Hp->VK->Prop}{f:List D->List D->Option #[3]}{gs:EnvD->Option #[3]}{dd:List D}
end
end Dv
namespace L4
open PySem PySem.Spec L2 L3
open PyProof.Rows hiding St
section
variable {prog:Program}{w:World}{A:Around}{E:Value->Shared->Prop}{s:Shared}
end
section
variable {X:Cx}{a:Expr}{ta:TA}{p p2 pos pos2:Pos}
end
end L4
namespace Dv
open PySem PySem.Spec L2 L3 L4
open PyProof.Rows hiding St
section
variable {X:Cx}{B:Bs}{a:Expr}{p p2 pos pos2:Pos}{gs:EnvD->Option #[3]}
end
section
variable {X:Cx}{B:Bs}{e:Expr}{es:List Expr}{pos p:Pos}{g:EnvD->Option En}{gxs:EnvD->Option (List En)}{x:Str}
def scal:D->Bool
 |.int _=>true
 |.bl _=>true
 |.non=>true
 |.str _=>true
 |_=>false
variable {k n:Nat}{m:List En->Option En}
end
section
variable {K:KW}{B:Bs}{F H:Hp}{σ:St}{ρ:EnvD}
end
section
variable {X:Cx}{B:Bs}{e ck ck0 ck1:Expr}{x y z:Str}{pos pos1 pos2 p p1 p2 p3 p4 p5 p6 p7 pos' apos cpos:Pos}{g:EnvD->Option D}
end
section
variable {X:Cx}{B:Bs}{e:Expr}{es:List Expr}{pos p:Pos}{gxs:EnvD->Option (List En)}{x:Str}{k n:Nat}{m:List En->Option En}
end
section
variable {X:Cx}{B:Bs}{e:Expr}{pos:Pos}{g:EnvD->Option D}
end
theorem uZ {H:Hp}{t:OT}{v:V}:∀ {ts:List OT} {vs:List V},ts.length=vs.length->feetOs H (ts++[t]) (vs++[v])=feetOs H ts vs++feetO H t v
 | [],[],_=>by simp[feetOs]
 |_::_,_::_,h=>by
  simp only[List.cons_append,feetOs]
  rw[uZ (by simpa using h),List.append_assoc]
theorem RepOs.snoc {K:KW}{F H:Hp}{t:OT}{v:V}(h:RepO K F H t v):∀ {ts:List OT} {vs:List V},RepOs K F H ts vs->RepOs K F H (ts++[t]) (vs++[v])
 | [],vs,r=>by have r:vs=[]:=r;subst r;exact⟨v,[],rfl,h,rfl⟩
 |_::_,_,⟨w,r,e,h1,h2⟩=>by subst e;exact⟨w,r++[v],rfl,h1,RepOs.snoc h h2⟩
section
variable {X:Cx}{B:Bs}{tg iter elt:Expr}{ifs:List Expr}{pos:Pos}{gi:EnvD->Option OT}
end
section
variable {X:Cx}{B:Bs}{o:Expr}{apos cpos pos p:Pos}{x:Str}{td:TE}
def tXClr (w:World)(td:TE):TE:=λσ H Q=>td σ H λx H1=>∃a ob kvs,x=.ref a/\H1 a=some (DX w a ob kvs)/\∀ob',Q .non (upd H1 a (DX w a ob' []))
theorem GQ (ho:PE X o td)(m:M0 X o "clear" apos cpos):PE X (.Call (.Attribute o "clear" apos) [] [] cpos) (tXClr X.w td):=by
 intro pins s σ H Q I h
 refine wpAny_Call_method (T := "dict") (id := "dict.clear") m.base rfl m.line PySem.F.plainAttrs_dict PySem.F.slot_dict_clear PySem.F.type_dict_clear (thn (ho pins s σ H _ I h) λu s1 ⟨x,H1,I1,rx,a,ob,kvs,ex,d,q1⟩=>?_)
 subst ex
 obtain rfl:u=Value.ref a:=rx
 obtain⟨_,z,hd,vs,rel,_,dd⟩:=xg I1 d
 have hz:vs.length<=sizeLine:=by rw[<-rel.length];exact z
 refine⟨VG I1 d,zd8 I1 d,?_⟩
 refine method_meetsIn PySem.F.slot_dict_clear PySem.F.entry_dict_clear rfl (PySem.evalArgs_none ⟨rfl,dd.typeIs,PySem.F.args_dict_clear_1 _,_,meets_dict_clear (zP X.prog X.w) a,⟨vs,dd,hz,λh' dd' hs=>?_⟩⟩)
 have he:∃q,h'.get? a=some q:=let ⟨q,_,_,hq,_⟩:=dd';⟨q,hq⟩
 obtain⟨o',ho',new⟩:=qk (P:=X.prog) (w:=X.w) (a:=a) (kvs:=[]) (Nat.zero_le _) hd .nil dd'
 exact⟨.non,_,ZF I1 (by rw[d];exact True.intro) hs he (new _),rfl,q1 o'⟩
def sClrD (i:Nat):SD:=λρ=>match ρ[i]? with
 |some (some (.dct oa _))=>some (.next (ρ.set i (some (.dct oa []))))
 |_=>none
theorem Gv (i:Nat)(hx:PE X #[11] (tVar i))(m:M0 X #[11] "clear" apos cpos)
  (hsw:swapsWith (.Call (.Attribute #[11] "clear" apos) [] [] cpos) none pos.line X.env=pure false:=by rfl) :
  DS X B (.Expr (.Call (.Attribute #[11] "clear" apos) [] [] cpos) pos) (sClrD i) :=
 zD (wy (GQ hx m) hsw) λE σ H ⟨F,ρ,fl,r,hg,k⟩=>by
  unfold sClrD at hg
  split at hg
  ·rename_i oa kvs q
   cases hg
   obtain⟨v,hv,a,ob,vs,rfl,h1,h2,h3,h4,h5⟩:=r.ents i _ q
   refine⟨.ref a,hv,a,ob,vs,rfl,h1,λob'=>?_⟩
   exact k σ F _ (r.write q rfl hv h2 h3 ⟨a,ob',[],rfl,zy,h2,h3,.nil,h5⟩ rfl) (Same.refl _)
  ·cases hg
end
end Dv
namespace L6
open PySem PySem.Spec L2 L3 L4
open PyProof.Rows hiding St
def tupO (vs:List Value):Obj:={ cls:=.type "tuple",data:=.seq vs.toArray }
def excO (C t:Addr):Obj:={ cls:=.ref C,data:=.fields #[.ref t,.none,.none,.none,.bool false,.none] }
def made (H:Heap)(C:Addr)(vs:List Value):Heap:=(H.push (tupO vs)).push (excO C H.objs.size)
section
variable {H:Heap}{C M:Addr}{vs:List Value}
theorem qE {a:Addr}{o:Obj}(q:H.get? a=some o):(made H C vs).get? a=some o:=Heap.get?_push_of_some _ (Heap.get?_push_of_some _ q)
theorem VE:(made H C vs).get? (H.objs.size+1)=some { cls:=.ref C,data:=.fields #[.ref H.objs.size,.none,.none,.none,.bool false,.none] }:=by unfold made excO tupO;heap_get
theorem zfr {m:Str->Option Value}(q:H.Ns M m):(made H C vs).Ns M m:=by
 obtain⟨o,x,y,z,r⟩:=q
 exact⟨o,x,y,qE z,r⟩
end
section
variable {P:Program}{w:World}{A:Around}{E:Value->Shared->Prop}{H:Heap}{g:Array GenState}{dr:Drawn}{t:Nat}{os:OsState}{C N fI:Addr}{oI:Obj}{vs:List Value}{mN:Str->Option Value}
variable {nm q:Str}{bs bm bb:List Value}{hd:Bool}{sn:List Str}{sb:List Value}{ab:Bool}{col:Option Bool}{dl:Option Addr}{k0 k1 k2 k3 k5:Option Value}{b0 nid iid:String}
end
def Trc (h:Heap)(e:Addr)(c:Value)(dd:Option Addr)(a0:Value)(T:Option Addr):Prop :=
 ∃oe vs,h.get? e=some oe/\oe.cls=c/\oe.dict=dd/\oe.data=.fields vs/\vs[0]?=some a0/\(T=none->vs[1]?=some .none) /\
  ∀t,T=some t->vs[1]?=some (.ref t)/\t≠e/\∃oT ts,h.get? t=some oT/\oT.data=.fields ts/\ts[3]?=some .none
def Kpt (S:List Addr)(e:Addr)(T:Option Addr)(h h':Heap):Prop :=
 ∀b o,b≠e->T≠some b->h.get? b=some o->(b∉S->h'.get? b=some o)/\∃sl,h'.get? b=some { o with slots:=sl }
theorem zgz (f:Array Value->Array Value)(o:Obj):(Obj.mapFields f o).dict=o.dict:=by
 obtain⟨c,d,dt,sl⟩:=o
 cases dt<;>rfl
section
variable {M:Model}{A:Around}{E:Value->Shared->Prop}{s:Shared}
end
def CX1 (P:Program)(w:World):CXT:=λouter H s E e s'=>∃ea C dd a0 T H',e=.ref ea/\s'.os=s.os/\AllBare s'.gens/\Un (frs outer) [] H H' s.heap s'.heap/\HOk P w H' s'.heap /\
 Trc s'.heap ea C dd a0 (some T)/\s.heap.objs.size<=ea/\s.heap.objs.size<=T/\H' ea=none/\H' T=none/\E C dd H'
section
variable {P:Program}{w:World}{K:PySem.W.Frag}{mg:Str->Option Value}{base:Heap}{N:List Str}{qual:Str}{scope:Scope}{f:Addr}{cd:Value}{A:Around}{outer:List Env}{s:Shared}{H:Hp}{E:XK}
end
section
variable {prog:Program}{w:World}{A:Around}{E:Value->Shared->Prop}{s:Shared}{K:PySem.W.Frag}{x dx C f:Addr}{mA:Str->Option Value}{name:Str}{v:Value}
abbrev vB:List Value:=[.type "ValueError",.type "Exception",.type "BaseException",.type "object"]
end
structure XC (K:PySem.W.Frag)(C HE fI:Addr)(fd:Str):Prop where
 cls:∃dd cd k0 k1 k2 k3 k5 bm,K.lookup C=some ⟨.type "type",dd,.cls cd,#[k0,k1,k2,k3,some (.builtin "ValueError.__new__"),k5]⟩/\cd.mro=.ref C::bm/\cd.hasDel=false /\
  PySem.W.tailIn K vB bm=true/\PySem.W.nsOkIn K cd.ns=true/\nsIn K cd.ns "__init__" = some (some (.ref fI))
 fn:∃o,K.lookup fI=some o/\o.cls=.type "function"
 kp:keepIn K (.ref C)=true
 sa:findIn K (.ref C) "__setattr__" = some (some (.builtin "object.__setattr__"))
 tk:takerIn K C fd=some none
 hd:hasDictIn K C=true
 sub:subIn K (.ref C) (.type "BaseException")=some true
 subH:subIn K (.ref C) (.ref HE)=some true
 ga:findIn K (.ref C) "__getattribute__" = some (some (.builtin "BaseException.__getattribute__"))
 gt:findIn K (.ref C) "__getattr__" = some none
 na:findIn K (.ref C) fd=some none
 rd:PySem.W.readsIn K HE (.type "type")=true
 fc:PySem.W.findCls K (.ref HE) (.type "type") "__init__" = some (.val (.builtin "ValueError.__init__"))
 sp:PySem.W.specialIn K (.ref HE) "__getattribute__" = some (some (.builtin "type.__getattribute__"))
section
variable {K:PySem.W.Frag}{C HE fI:Addr}{fd:Str}{h:Heap}
end
section
variable {prog:Program}{w:World}{A:Around}{E:Value->Shared->Prop}{h:Heap}{g:Array GenState}{d:Drawn}{t:Nat}{os:OsState}
variable {nm q:Str}{C N:Addr}{bs bm bmB:List Value}{hdct:Bool}{sn:List Str}{sub:List Value}{ab:Bool}{col:Option Bool}{dd:Option Addr}{k0 k1 k2 k3 k5:Option Value}{B newId initId:String}
theorem zdc (F:ExcBaseFacts B newId initId bmB)(T:OwnTail h bmB bm){e ta:Addr}{rest:List Value}{Q:Value->Shared->Prop}
  (hC:h.get? C=some (excClassObj nm q C N bs bm hdct sn sub ab col dd k0 k1 k2 k3 k5 newId)) (he:h.get? e=some { cls:=.ref C,data:=.fields #[.ref ta,.none,.none,.none,.bool false,.none] }) (hrest:rest.length<=sizeLine)
  (hq:∀h',h'.get? e=some { cls:=.ref C,data:=.fields #[.ref h.objs.size,.none,.none,.none,.bool false,.none] }->(∀b o,b≠e->h.get? b=some o->h'.get? b=some o)->Q .none ⟨h',g,d,t,os⟩) :
  wpAny #[19] A (call (.builtin initId) (.ref e::rest)) Q E ⟨h,g,d,t,os⟩:=by
 refine wpAny_call (codeAny_call_builtin F.init.plain F.initEntry (wpAny_check_init_subT F T hC he rfl ?_))
 wp_walk
 refine hq _ ?_ λb o hb q=>?_
 ·exact Heap.get?_update_self _ (Heap.get?_push_of_some _ he) rfl
 ·rw[Heap.get?_update_other _ _ (Ne.symm hb)]
  exact Heap.get?_push_of_some _ q
end
def ExO (e C t:Addr)(dd:Option Addr):HO:=.ext λh=>h.get? e=some { cls:=.ref C,dict:=dd,data:=.fields #[.ref t,.none,.none,.none,.bool false,.none] }
theorem UG {P:Program}{w:World}{H:Hp}{h:Heap}{e C t:Addr}{dd:Option Addr}(q:h.get? e=some { cls:=.ref C,dict:=dd,data:=.fields #[.ref t,.none,.none,.none,.bool false,.none] }):ObjOk P w H h e (ExO e C t dd) :=
 ⟨q,⟨_,q⟩,λ_ _ p k=>k _ p⟩
def xiSp (C:Addr)(fd:Str):Sp:=λvs H Q _=>∃e v t,vs=[.ref e,v]/\H e=some (ExO e C t none)/\∀t' dx,H dx=none->dx≠e->Q .non (upd (upd H e (ExO e C t' (some dx))) dx (.xd [(fd,v)]))
section
variable {X:Cx}{C HE fI:Addr}{fd x:Str}{pos p apos pa pb pos':Pos}{a b:Expr}{ta tb:TE}
end
def del (H:Hp)(e:Addr):Hp:=λb=>if b=e then none else H b
theorem qF {H:Hp}{e b:Addr}(h:b≠e):del H e b=H b:=by unfold del;rw[if_neg h]
theorem Z0 {H:Hp}{e:Addr}:del H e e=none:=by unfold del;rw[if_pos rfl]
theorem zdv {X:Cx}{pins:List (Addr×Obj)}{σ:St}{H:Hp}{s:Shared}{e:Addr}{φ:Heap->Prop}(I:Inv X pins σ H s)(he:H e=some (.ext φ)):Inv X pins σ (del H e) s:=by
 have no:∀ {b:Addr},H b=none->del H e b=none:=fun {b} n=>by
  by_cases q:b=e
  ·rw[q];exact Z0
  ·rw[qF q];exact n
 have ke:∀ {b:Addr} {u:HO},H b=some u->(∀φ,u≠.ext φ)->del H e b=some u:=fun {b u} n d=>by
  have:b≠e:=λz=>by rw[z,he] at n;cases n;exact d _ rfl
  rw[qF this];exact n
 have u:=I.base
 refine⟨I.ok,I.os,I.bare,⟨u.keep,u.slot,λb o q n hx=>no (u.free b o q n hx),u.there,λb xs q=>ke (u.tups b xs q) (λ_ z=>nomatch z),λb o xs q=>ke (u.frzs b o xs q) (λ_ z=>nomatch z),λb ps q=>?_⟩,I.loc,I.cell,no I.free,λx c q=>no (I.freeC x c q),λp hp=>?_,λa o q=>?_,I.len⟩
 ·obtain⟨m,z⟩:=u.tbls b ps q
  exact⟨m,ke z λ_ z=>nomatch z⟩
 ·obtain⟨a1,a2,a3⟩:=I.pin p hp
  exact⟨a1,no a2,a3⟩
 ·have hne:a≠e:=λz=>by rw[z,Z0] at q;cases q
  rw[qF hne] at q
  exact (I.hok a o q).stay (λb u _ z=>z) (λb z=>ke z λ_ z=>nomatch z) λb xs z=>ke z λ_ z=>nomatch z
section
variable {M:Model}{A:Around}{E:Value->Shared->Prop}{s:Shared}{env:Env}
variable {nm q:Str}{C N:Addr}{bs bm:List Value}{hdct:Bool}{sn:List Str}{sub:List Value}{ab:Bool}{col:Option Bool}{dd:Option Addr}{k0 k1 k2 k3 k5:Option Value}{newId:String}
theorem Uz {x:Sem Value}{Q:Flow->Shared->Prop}(hbase:bm.contains (.type "BaseException")=true) (hh:A.handled=none)
  (h:wpAny M A x (λv s₁=>∃e t ed,v=.ref e/\s₁.heap.get? C=some (excClassObj nm q C N bs bm hdct sn sub ab col dd k0 k1 k2 k3 k5 newId) /\
   s₁.heap.get? e=some { cls:=.ref C,dict:=ed,data:=.fields #[.ref t,.none,.none,.none,.bool false,.none] }/\E (.ref e) s₁) E s) :
  wpAny M A (raiseStmt env (some x) none) Q E s:=by
 have hcB:(Value.ref C::bm).contains (.type "BaseException")=true:=by rw[List.contains_cons,hbase,Bool.or_true]
 unfold raiseStmt
 refine wpAny_bind (wpAny_mono h (λv s₁ h₁=>?_) λ_ _ x=>x)
 obtain⟨e,t,ed,rfl,hC,he,hE⟩:=h₁
 obtain⟨hp,g,d,tk,os⟩:=s₁
 repeat (first | with_reducible refine wpAny_loadPart_at he ?_ | with_reducible refine wpAny_loadPart_at hC ?_ | (with_reducible refine wpAny_isSubtype_exc hC ?_;rw[hcB]) | wp_step)
 exact wpAny_raiseNew_none hh hE
end
section
variable {X:Cx}{C HE fI:Addr}{fd x:Str}{pos p cpos:Pos}{a:Expr}{t:TA}{k:Nat}{f0:FuncData}{ps:List Str}
end
section
variable {P:Program}{w:World}{K:PySem.W.Frag}{mg:Str->Option Value}{base:Heap}{N:List Str}{qual:Str}{scope:Scope}{f:Addr}{cd:Value}{A:Around}{outer:List Env}{s0:Shared}{H0:Hp}{E:XK}
variable {X:Cx}{C HE fI:Addr}{fd x:Str}{pos p cpos:Pos}{a:Expr}{t:TA}{k:Nat}{f0:FuncData}{ps:List Str}
end
theorem Q9 {M:Model}{h:Heap}{e C:Addr}{oe:Obj}(he:h.get? e=some oe)(hc:oe.cls=.ref C):Looks M h (typeOf (.ref e)) (.ref C):=by
 intro A' Q' E' s' k q
 unfold typeOf
 refine wpAny_bind (wpAny_loadPart (k _ _ he) ?_)
 rw[hc]
 exact wpAny_pure q
section
variable {K:PySem.W.Frag}{e C M:Addr}
structure XM (K:PySem.W.Frag)(C M:Addr):Prop where
 sub:subIn K (.ref C) (.ref M)=some true
 nt:PySem.W.instIn K (.ref M) (.type "tuple")=some false
 cls:(clsIn K M).isSome=true
 exc:subIn K (.ref M) (.type "BaseException")=some true
theorem J9 {prog:Program}{w:World}{A:Around}{E:Value->Shared->Prop}{s:Shared}{Q:Bool->Shared->Prop}{oe:Obj}(xm:XM K C M)(X:K.In s.heap)(he:s.heap.get? e=some oe)(hc:oe.cls=.ref C)(h:Q true s) :
  wpAny #[19] A (excMatches (.ref e) (.ref M)) Q E s:=by
 obtain⟨hh,g,d,t,os⟩:=s
 have L0:=PySem.W.looks_instIn (M:=model prog w) X xm.nt
 have L1:=Q9 (M:=model prog w) he hc
 have L2:=PySem.W.looks_subIn (M:=model prog w) X xm.sub
 have L3:=PySem.W.looks_subIn (M:=model prog w) X xm.exc
 have L4:Looks #[19] hh (isType (.ref M)) true:=by
  have z0:=xm.cls
  unfold clsIn at z0
  split at z0
  ·rename_i c' d' cd' sl' ho
   intro A' Q' E' s' k q
   unfold isType loadHead
   exact wpAny_bind (wpAny_loadPart (k _ _ (X _ _ ho)) (wpAny_pure q))
  ·cases z0
 unfold excMatches isExcClass
 repeat (first | with_reducible refine L0.at ?_ | with_reducible refine L1.at ?_ | with_reducible refine L2.at ?_ | with_reducible refine L3.at ?_ | with_reducible refine L4.at ?_ | wp_step)
 all_goals first | exact h | skip
end
section
variable {X:Cx}{pins:List (Addr×Obj)}{σ:St}{H:Hp}{s:Shared}{h':Heap}{e:Addr}{T:Option Addr}
def Own (X:Cx)(pins:List (Addr×Obj))(H:Hp)(b:Addr):Prop:=X.s₀.heap.objs.size<=b/\b≠X.env.locals/\(∀x c,X.env.cells.lookup x=some c->c≠b)/\(∀p∈X.pn++pins,p.1≠b)/\H b=none/\b∉X.fs
theorem ku {s1:Shared}{H1:Hp}(I:Inv X pins σ H1 s1){b:Addr}(h:s1.heap.objs.size<=b)(n:H b=none):Own X pins H b:=by
 refine⟨Nat.le_trans I.sz h,Nat.ne_of_gt (Nat.lt_of_lt_of_le I.lt h),λx c q=>?_,λp hp=>?_,n,I.nofs h⟩
 ·obtain⟨v,o,ho,_⟩:=I.cell x c q
  exact Nat.ne_of_lt (Nat.lt_of_lt_of_le (Heap.lt_size ho) h)
 ·exact Nat.ne_of_lt (Nat.lt_of_lt_of_le (Heap.lt_size (I.pin p hp).1) h)
theorem uk (I:Inv X pins σ H s)(K:Kpt (frs X.stack) e T s.heap h')(h1:Own X pins H e)(h2:∀t,T=some t->Own X pins H t):Inv X pins σ H { s with heap:=h' }:=by
 have sub:∀b,b∈frs X.stack->b=X.env.locals∨b∈X.fs:=λb hb=>List.mem_cons.mp (I.stkSub b hb)
 have ne:∀b,b∉(e::T.toList)->b≠e/\T≠some b:=λb hb=>by
  refine⟨λz=>hb (by rw[z];exact .head _),λz=>hb ?_⟩
  rw[z];exact .tail _ (.head _)
 have tr:∀b u,H b=some u->b≠e/\T≠some b:=λb u q=>by
  constructor
  ·intro z
   rw[z,h1.2.2.2.2.1] at q
   cases q
  ·intro z
   have:=(h2 b z).2.2.2.2.1
   rw[this] at q
   cases q
 refine I.step (g':=s.gens) (t':=s.toks) (d':=s.drawn) (ch:=e::T.toList) (λb hb=>?_) (λb o hL hf hc q n=>?_) (λb o hL hf hc q n=>?_) (λb o hc q n=>n) (λb o hc q=>?_) (λ_ _ q=>q) (λ_ _ _ q=>q) (λb ps q=>⟨#[],by rw[q];simp⟩) (λm hm=>?_) (λb u q=>?_) I.bare
 ·have:Own X pins H b:=by
   rcases List.mem_cons.mp hb with rfl | z
   ·exact h1
   ·exact h2 b (by cases T with | none=>cases z | some t=>simp at z;rw[z])
  exact⟨.inr this.1,this.2.1,this.2.2.1,this.2.2.2.1⟩
 ·obtain⟨n1,n2⟩:=ne b hc
  exact (K b o n1 n2 q).1 λz=>(sub b z).elim hL hf
 ·obtain⟨n1,n2⟩:=ne b hc
  exact (K b o n1 n2 q).2
 ·obtain⟨n1,n2⟩:=ne b hc
  obtain⟨sl,z⟩:=(K b o n1 n2 q).2
  exact⟨_,z⟩
 ·obtain⟨o,es,ep,ho,r⟩:=hm
  obtain⟨sl,z⟩:=(K _ o (Ne.symm h1.2.1) (λz=>(h2 _ z).2.1 rfl) ho).2
  exact⟨_,es,ep,z,r⟩
 ·refine (I.hok b u q).stay (λc v hc z=>?_) (λ_ z=>z) λ_ _ z=>z
  have hn:∃u',H c=some u':=by
   rcases hc with rfl | z
   ·exact⟨u,q⟩
   ·exact⟨_,z⟩
  obtain⟨u',hu⟩:=hn
  obtain⟨n1,n2⟩:=tr c u' hu
  refine (K c v n1 n2 z).1 λhf=>?_
  rw[I.stkFree c hf] at hu;cases hu
theorem Wm {M:Model}{A:Around}{E:Value->Shared->Prop}{c a0:Value}{dd:Option Addr}{t:Addr}{Q:Unit->Shared->Prop}(ht:Trc s.heap e c dd a0 (some t))
  (h:∀h',Trc h' e c dd a0 (some t)->Kpt [] e (some t) s.heap h'->Q () { s with heap:=h' }):wpAny M A (setFlight (.ref e) none) Q E s:=by
 obtain⟨oe,vs,he,rfl,rfl,hd,h0,hn,hs⟩:=ht
 obtain⟨h1,hte,oT,ts,hT,hdT,h3⟩:=hs t rfl
 have sz:3 < ts.size:=(Array.getElem?_eq_some_iff.mp h3).1
 unfold setFlight
 refine wpAny_bind (wpAny_field he hd h1 ?_)
 rw[if_pos (show (Value.ref t != Value.none)=true from by simp)]
 refine wpAny_setField hT hdT sz (h _ ⟨oe,vs,?_,rfl,rfl,hd,h0,hn,λt' q=>?_⟩ λb o hb hbt q=>?_)
 ·rw[Heap.get?_update_other _ _ hte];exact he
 ·cases q
  refine⟨h1,hte,_,_,Heap.get?_update_self _ hT (Obj.isFreed_of_fields (Obj.data_mapFields hdT _)),Obj.data_mapFields hdT _,?_⟩
  rw[Array.getElem?_setIfInBounds_self_of_lt sz];rfl
 ·have:(s.heap.update t (Obj.mapFields (·.setIfInBounds 3 ((none:Option Addr).elim Value.none λf=>rawInt f)))).get? b=some o:=by
   rw[Heap.get?_update_other _ _ (λz=>hbt (by rw[z]))];exact q
  exact⟨λ_=>this,o.slots,this⟩
theorem Kpt.wide {S S':List Addr}{h h':Heap}(K:Kpt S e T h h')(hs:∀b∈S,b∈S'):Kpt S' e T h h':=λb o n1 n2 q=>⟨λhb=>(K b o n1 n2 q).1 λz=>hb (hs b z),(K b o n1 n2 q).2⟩
theorem Gy {M:Model}{A:Around}{E:Value->Shared->Prop}{i:Nat}{n:Str}{pos:Pos}{Q:Unit->Shared->Prop}(I:Inv X pins σ H s)(hN:X.N.Nodup)(hi:X.N[i]?=some n)(hl:X.env.scope.names.lookup n=some .local)
  (h:∀s',Inv X pins (σ.set i none) H s'->Q () s'):wpAny M A (do bindName X.env n .none;unbindBehindTheSuite X.env n pos) Q E s:=by
 refine wpAny_bind (wpAny_bindName (Yh (v:=.non) I hN hi (.inl hl) rfl (λs1 I1=>?_) (.inr hl)))
 have hiσ:i < σ.length:=by rw[I.len];exact (List.getElem?_eq_some_iff.mp hi).1
 obtain⟨m,hn,hlk⟩:=id I1.loc
 have hcls:(X.env.scope.kind==.class||(X.env.scope.kind==.module&&X.env.locals != X.env.globals))=false:=by rw[I.ok.kind];rfl
 obtain⟨u,ru,look⟩:=hlk i n .non hi (List.getElem?_set_self hiσ) (.inl hl)
 have hm:m n=some u:=by
  rcases look with⟨_,z⟩ | ⟨z,_⟩
  ·exact z
  ·have z':X.env.scope.names.lookup n=some .cell∨X.env.scope.names.lookup n=some .free:=z
   rw[hl] at z'
   rcases z' with z' | z'<;>cases z'
 unfold unbindBehindTheSuite
 refine wpAny_onRaise (wpAny_unbindName_local hl hn hm hcls λh' w hn' hs=>h _ ?_)
 obtain⟨oL,_,_,hoL,_⟩:=id hn
 have cne:=I1.cne
 refine⟨I1.ok,I1.os,I1.bare,⟨λb o e n hb hx=>?_,λb o e n hb hx=>?_,I1.base.free,λb o e hx=>?_,I1.base.tups,I1.base.frzs,I1.base.tbls⟩,⟨_,hn',λj y v' e1 e2 e3=>?_⟩,λy c e=>?_,I1.free,I1.freeC,λp hp=>?_,λb ob e=>?_,by simpa using I.len⟩
 ·exact (hs.2 b (Nat.ne_of_lt (Nat.lt_of_lt_of_le (Heap.lt_size e) I1.ok.above))).trans (I1.base.keep b o e n hb hx)
 ·obtain⟨sl,e1⟩:=I1.base.slot b o e n hb hx
  exact⟨sl,(hs.2 b (Nat.ne_of_lt (Nat.lt_of_lt_of_le (Heap.lt_size e) I1.ok.above))).trans e1⟩
 ·obtain⟨o',e1⟩:=I1.base.there b o e hx
  exact⟨o',(hs.2 b (Nat.ne_of_lt (Nat.lt_of_lt_of_le (Heap.lt_size e) I1.ok.above))).trans e1⟩
 ·by_cases hj:j=i
  ·subst hj
   rw[List.getElem?_set_self hiσ] at e2
   cases e2
  ·rw[List.getElem?_set_ne (Ne.symm hj)] at e2
   obtain⟨u',r',q⟩:=hlk j y v' e1 (by rw[List.getElem?_set_ne (Ne.symm hj)];exact e2) e3
   refine⟨u',r',?_⟩
   rcases q with⟨k,e⟩ | ⟨k,c,e,z⟩
   ·refine .inl ⟨k,?_⟩
    have:y≠n:=λe=>hj (uU hN e1 (e ▸ hi))
    simp[this,e]
   ·exact .inr ⟨k,c,e,z.sameBut hs (cne y c e)⟩
 ·obtain⟨w',z⟩:=I1.cell y c e
  exact⟨w',z.sameBut hs (cne y c e)⟩
 ·obtain⟨e,n,ne,nf,d⟩:=I1.pin p hp
  exact⟨(hs.2 p.1 ne).trans e,n,ne,nf,d⟩
 ·refine (I1.hok b ob e).stay (λc w' hc q=>(hs.2 c ?_).trans q) (λ_ q=>q) λ_ _ q=>q
  rintro rfl
  have hf:=I1.free
  rcases hc with rfl | hc
  ·rw[hf] at e;cases e
  ·rw[hf] at hc;cases hc
end
def cxE (X:Cx)(ea:Addr)(pn:List (Addr×Obj)):Cx:={ X with A:=X.A.mark (some (.ref ea)),calm:=false,pn:=pn++X.pn,xe:=λ_ _=>False }
section
variable {X:Cx}{pins:List (Addr×Obj)}{σ:St}{H:Hp}{s:Shared}{ea:Addr}{pn:List (Addr×Obj)}
theorem zhf (ok:X.Ok):(cxE X ea pn).Ok :=
 ⟨ok.mod,ok.kind,ok.glob,ok.blt,ok.above,ok.inj,ok.has,ok.cab,λz=>(nomatch z),ok.frames,ok.stk,ok.exf,ok.bs,ok.bsz,ok.noex,ok.exfs,ok.funs,ok.frf⟩
theorem kh (I:Inv X pins σ H s)(h:∀p∈pn,s.heap.get? p.1=some p.2/\H p.1=none/\p.1≠X.env.locals/\p.1∉X.fs/\∀v,p.2.data≠.cell v):Inv (cxE X ea pn) pins σ H s :=
 ⟨zhf I.ok,I.os,I.bare,I.base,I.loc,I.cell,I.free,I.freeC,λp hp=>by
  have hp':p∈(pn++X.pn)++pins:=hp
  rw[List.append_assoc] at hp'
  rcases List.mem_append.mp hp' with z | z
  ·exact h p z
  ·exact I.pin p z,I.hok,I.len⟩
theorem QI (ok:X.Ok)(I:Inv (cxE X ea pn) pins σ H s):Inv X pins σ H s :=
 ⟨ok,I.os,I.bare,I.base,I.loc,I.cell,I.free,I.freeC,λp hp=>I.pin p (by
  show p∈(pn++X.pn)++pins
  rw[List.append_assoc];exact List.mem_append_right _ hp),I.hok,I.len⟩
end
section
variable {X:Cx}{C MC:Addr}{ie:Nat}{r:St->Hp->(St->XK)->Prop}{ts:Addr->Addr->TS}{body suite:List Stmt}{b0:Stmt}{xM n:Str}{pM hpos pos:Pos}
end
section
variable {X:Cx}{C HE fI ea dx M2:Addr}{oe:Obj}{fd n x y:Str}{ie iy:Nat}{pos p p2 p3 pos2 pos3:Pos}{ta tb:TE}
end
section
variable {X:Cx}{k:Nat}{f:Addr}{f0:FuncData}{ps:List Str}{sp:Sp}{x:Str}{pos p:Pos}{e:Expr}{es:List Expr}{t:TA}{st:Stmt}{rest:List Stmt}{E:XK}
theorem PA.nox {es:List Expr}{t:TA}(h:PA X.nox es t):PA X es t:=λpos pins s σ H Q I hw=>
 wpAny_mono (h pos pins s σ H Q (I.wish _) hw) (λ_ _ ⟨v,H',I',r,q⟩=>⟨v,H',I'.unwish,r,q⟩) λ_ _ z=>False.elim z
theorem PS.nox {st:Stmt}{t:TS}(h:PS X.nox st t):PS X st t:=λpins s σ H D I hw=>
 wpAny_mono (h pins s σ H D (I.wish _) hw) (λ_ _ q=>q.unwish) λ_ _ z=>False.elim z
end
end L6
namespace Dv
open PySem PySem.Spec L2 L3 L4 L6
open PyProof.Rows hiding St
def rSp (K:KW)(C:Addr)(fd:Str)(n:Nat)(m:List En->Option D):Sp:=λvs H _ E=>
 ∃F xs d,Same F H/\xs.length=n/\Paired (λx v=>ArgE K F H x v) xs vs/\m xs=some d/\∀dx v F' H',Ext F H F' H'->H' dx=some (.xd [(fd,v)])->Rp K F' d v->E (.ref C) (some dx) H'
structure Rx (P:Program)(w:World)(K:PySem.W.Frag)(mg:Str->Option Value)(base:Heap)(x:Str)(C:Addr)(fd:Str)(k n:Nat)(m:List En->Option D):Prop where
 ex:∃f f0 ps,FnOk P w K mg base (CX1 P w) k f f0 ps (rSp ⟨K,w⟩ C fd n m)/\mg x=some (.ref f)/\keepIn K (.ref f)=true/\Binds K f0 ps []
def lB (K:KW)(B:Bs)(C:Addr)(fd:Str)(E:XK)(g:EnvD->Option D):TS:=λ_ σ H=>
 ∃F ρ d,Rep K B F σ H ρ/\g ρ=some d/\∀dx v F' H',Ext B.F0 B.H0 F' H'->H' dx=some (.xd [(fd,v)])->Rp K F' d v->E (.ref C) (some dx) H'
section
variable {P:Program}{w:World}{K:PySem.W.Frag}{mg:Str->Option Value}{base:Heap}{N:List Str}{qual:Str}{scope:Scope}{f:Addr}{cd:Value}{A:Around}{outer:List Env}{s0:Shared}{H0:Hp}{E:XK}
variable {X:Cx}{B:Bs}{C HE fI:Addr}{fd x:Str}{pos p cpos:Pos}{a e:Expr}{es:List Expr}{st:Stmt}{rest:List Stmt}{k n:Nat}{g:EnvD->Option D}{gs:SD}{gxs:EnvD->Option (List En)}{m:List En->Option D}{f0:FuncData}{ps:List Str}
end
section
variable {X:Cx}{B:Bs}{C HE fI MC M2:Addr}{fd x:Str}{pos p cpos:Pos}{a e c:Expr}{es:List Expr}{rest sa sb:List Stmt}{k n:Nat}{g ga gb:EnvD->Option D}{gt:EnvD->Option Bool}{gxs:EnvD->Option (List En)}{m:List En->Option D}
theorem GR {K:KW}{F:Hp}{σ:St}{H:Hp}{ρ:EnvD}{i:Nat}(r:Rep K B F σ H ρ)(h:∀x,ρ[i]?≠some (some x)):Rep K B F (σ.set i none) H ρ:=by
 have ne:∀ {j:Nat} {x:En},ρ[j]?=some (some x)->j≠i:=fun {j x} e z=>by subst z;exact h x e
 refine⟨r.ex,by simp[r.len],λj x e=>?_,λj l y z v w e1 e2 s1 s2 hne=>?_⟩
 ·obtain⟨v,h1,h2⟩:=r.ents j x e
  exact⟨v,by rw[List.getElem?_set_ne (Ne.symm (ne e))];exact h1,h2⟩
 ·rw[List.getElem?_set_ne (Ne.symm (ne e1))] at s1
  rw[List.getElem?_set_ne (Ne.symm (ne e2))] at s2
  exact r.dj j l y z v w e1 e2 s1 s2 hne
variable {xM y n2 xI fx:Str}{ie iy i:Nat}{pM hpos pI pN pC pA pE' pY pK pB pF apos epos:Pos}{body:List Stmt}{nm:Str}
end
structure Exc (P:Program)(w:World)(K:PySem.W.Frag)(mg:Str->Option Value)(base:Heap)(CT HE fI:Addr)(fd xT xH:Str):Prop where
 xc:XC K CT HE fI fd
 xm:XM K CT CT
 xmH:XM K CT HE
 z:kitOne K (.ref CT) (.ref HE)=some true
 zT:kitOne K (.ref CT) (.ref CT)=some true
 mT:mg xT=some (.ref CT)
 mH:mg xH=some (.ref HE)
 ini:∃f0 ps,FnOk P w K mg base CX0 1 fI f0 ps (xiSp CT fd)/\Binds K f0 ps []
section
variable {P:Program}{w:World}{K:PySem.W.Frag}{mg:Str->Option Value}{base:Heap}{N:List Str}{qual:Str}{scope:Scope}{f:Addr}{cd:Value}{A:Around}{outer:List Env}{s0:Shared}{H0:Hp}{E:XK}
variable {B:Bs}{CT HE fI:Addr}{fd xT xH:Str}{pos p cpos:Pos}{a:Expr}{rest:List Stmt}{g:EnvD->Option D}
theorem KR {K:PySem.W.Frag}{v:Value}:kitOne K v v=some true:=by unfold kitOne;rw[if_pos (beq_self_eq_true _)]
end
section
variable {X:Cx}{B:Bs}{C HE fI MC M2:Addr}{fd x:Str}{pos p cpos:Pos}{gb:EnvD->Option D}
variable {xM y n2 xI fx:Str}{ie iy i:Nat}{pM hpos pI pN pC pA pE' pY pK pB pF apos epos:Pos}{body:List Stmt}{nm:Str}
end
section
variable {P:Program}{w:World}{K:PySem.W.Frag}{mg:Str->Option Value}{base:Heap}{N:List Str}{qual:Str}{scope:Scope}{f:Addr}{cd:Value}{A:Around}{outer:List Env}{s0:Shared}{H0:Hp}{E:XK}
variable {X:Cx}{B:Bs}{C:Addr}{fd x:Str}{pos p cpos lpos:Pos}{e elt tg:Expr}{es ifs:List Expr}{rest:List Stmt}{k n i:Nat}{gxs:EnvD->Option (List En)}{m:List En->Option D}{own:List Str}{cap:List (Str×Nat)}{scp:Scope}
end
end Dv
namespace Dv
open PySem PySem.Spec L2 L3 L4
open PyProof.Rows hiding St
section
variable {X:Cx}{B:Bs}{e o:Expr}{apos cpos:Pos}{go:EnvD->Option D}{gs:EnvD->Option #[3]}
end
open L6
def noStar:Expr->Bool
 |.Starred _ _=>false
 |_=>true
theorem zG {e:Expr}{es:List Expr}{env:Env}(h:noStar e=true):starEach (e::es) env=(false,eval e env)::starEach es env:=by
 cases e<;>first | rfl | (cases h)
def PassS (X:Cx)(E:St->XK):Prop:=∀(pins:List (Addr×Obj)) (σ:St) (H:Hp) (s:Shared) (e:Value) (s':Shared),Inv X pins σ H s->CX1 X.prog X.w X.stack H s (E σ) e s'->X.xe e s'
abbrev Xv:=Str×Option D
def Pd (K:KW)(F H:Hp)(fd:Str)(dd:Option Addr):Option D->Prop
 |none=>dd=none
 |some d=>∃dx v,dd=some dx/\H dx=some (.xd [(fd,v)])/\Rp K F d v
def ySp (K:KW)(ca:Str->Addr)(fd:Str)(n:Nat)(m:List En->Option Xv):Sp:=λvs H _ E=>
 ∃F xs q,Same F H/\xs.length=n/\Paired (λx v=>ArgE K F H x v) xs vs/\m xs=some q/\∀dd F' H',Ext F H F' H'->Pd K F' H' fd dd q.2->E (.ref (ca q.1)) dd H'
structure Ry (P:Program)(w:World)(K:PySem.W.Frag)(mg:Str->Option Value)(base:Heap)(ca:Str->Addr)(fd:Str)(x:Str)(k n:Nat)(m:List En->Option Xv):Prop where
 ex:∃f f0 ps,FnOk P w K mg base (CX1 P w) k f f0 ps (ySp ⟨K,w⟩ ca fd n m)/\mg x=some (.ref f)/\keepIn K (.ref f)=true/\Binds K f0 ps []
def lV (K:KW)(B:Bs)(ca:Str->Addr)(fd:Str)(E:St->XK)(g:EnvD->Option Xv):St->Hp->Prop:=λσ H=>
 ∃F ρ q,Rep K B F σ H ρ/\g ρ=some q/\∀dd F' H',Rep K B F' σ H' ρ->Same F F'->Pd K F' H' fd dd q.2->E σ (.ref (ca q.1)) dd H'
def DV (X:Cx)(B:Bs)(ca:Str->Addr)(fd:Str)(E:St->XK)(e:Expr)(g:EnvD->Option Xv):Prop:=PE X e λσ H _=>lV X.kw B ca fd E g σ H
def lVs (K:KW)(B:Bs)(ca:Str->Addr)(fd:Str)(E:St->XK)(g:EnvD->Option (EnvD×Xv)):St->Hp->Prop:=λσ H=>
 ∃F ρ q,Rep K B F σ H ρ/\g ρ=some q/\∀dd σ' F' H',Rep K B F' σ' H' q.1->Same F F'->Pd K F' H' fd dd q.2.2->E σ' (.ref (ca q.2.1)) dd H'
def DVs (X:Cx)(B:Bs)(ca:Str->Addr)(fd:Str)(E:St->XK)(sts:List Stmt)(g:EnvD->Option (EnvD×Xv)):Prop:=PSs X sts λ_ σ H=>lVs X.kw B ca fd E g σ H
section
variable {X:Cx}{B:Bs}{ca:Str->Addr}{fd x:Str}{E:St->XK}{pos p cpos:Pos}{a b e c:Expr}{es:List Expr}{st:Stmt}{rest sa sb:List Stmt}{k n:Nat}{g ga gb:EnvD->Option Xv}{gd:EnvD->Option D}{gl:EnvD->Option #[3]}{gs:SD}{gt:EnvD->Option Bool}{gxs:EnvD->Option (List En)}{m:List En->Option Xv}{h1 h2:EnvD->Option (EnvD×Xv)}
def yCall (m:List En->Option Xv)(gxs:EnvD->Option (List En)):EnvD->Option Xv:=λρ=>(gxs ρ).bind m
theorem JA (hp:PassS X E)(h:Ry X.prog X.w X.kw X.mg X.base ca fd x k n m)(hn:∀xs o,m xs=some o->xs.length=n)(hr:Room k X.A)(hg:Gl X x)(ha:DNs X.nox B (e::es) gxs)
  (hdb:#[20]=false:=by decide +kernel) (he:starEach (e::es) X.env=(false,eval e X.env)::starEach es X.env:=by rfl) (hpl:#[24].any (·.1)=false:=by rfl) :
  DV X B ca fd E #[26] (yCall m gxs):=by
 obtain⟨f,f0,ps,F,hm,hk,hb⟩:=h.ex
 intro pins s σ H Q I h
 obtain⟨F0,ρ,q0,r,hgq,kk⟩:=h
 unfold yCall at hgq
 cases q1:gxs ρ with
 |none=>rw[q1] at hgq;cases hgq
 |some xs=>
  rw[q1] at hgq
  have hgq:m xs=some q0:=hgq
  refine wpAny_Call_Name_kw (x5 I hg hm ?_ hdb)
  refine PySem.W.callWith_K (h₀:=X.base) I.ok.mod.kin hk (wpAny_mono (ha pos pins s σ H (λvs H1=>ySp X.kw ca fd n m vs H1 (λ_ _=>False) (E σ)) (I.wish _) ⟨F0,ρ,xs,r,q1,λvs F1 H1 e1 p1=>⟨F1,xs,q0,e1.fh,hn xs q0 hgq,p1,hgq,λdd F' H' e2 pd=>kk dd F' H' (r.ext (e1.trans e2)) (e1.trans e2).ff pd⟩⟩) (λus s1 ⟨vs,H1,I1,rv,q⟩=>⟨I1.kIn,?_⟩) λ_ _ z=>False.elim z) he hpl
  have I1:=I1.unwish
  have hl:(us++([]:List Value)).length=ps.length:=by rw[List.append_nil,<-rv.length];exact F.len _ _ _ _ q
  refine wpAny_call (codeAny_mono (F.run X.A X.stack s1 H1 ⟨us,[]⟩ us vs _ (E σ) hr I1.env0 (by have:=hb s1 us I1.kIn hl;rw[List.append_nil] at this;exact this) rv q) λr s' hq=>?_)
  cases r with
  |error e=>exact hp pins σ H1 s1 e s' I1 hq
  |ok fl=>
   cases fl with
   |ret u=>obtain⟨_,_,_,_,_,_,_,z⟩:=hq;exact z.elim
   |next=>exact False.elim hq
   |brk=>exact False.elim hq
   |cont=>exact False.elim hq
def yAlt {α:Type}(g1 g2:EnvD->Option α):EnvD->Option α:=λρ=>match g1 ρ with
 |some q=>some q
 |none=>g2 ρ
theorem Jb (d1:DVs X B ca fd E rest h1)(d2:DVs X B ca fd E rest h2):DVs X B ca fd E rest (yAlt h1 h2):=λpins s σ H D I ⟨F,ρ,q,r,hg,k⟩=>by
 unfold yAlt at hg
 split at hg
 ·rename_i q' hq;cases hg;exact d1 pins s σ H D I ⟨F,ρ,q,r,hq,k⟩
 ·exact d2 pins s σ H D I ⟨F,ρ,q,r,hg,k⟩
def yE (g:EnvD->Option Xv):EnvD->Option (EnvD×Xv):=λρ=>(g ρ).map λq=>(ρ,q)
theorem Vs {K:KW}{σ:St}{H:Hp}(h:lVs K B ca fd E (yE g) σ H):lV K B ca fd E g σ H:=by
 obtain⟨F,ρ,q,r,hg,k⟩:=h
 unfold yE at hg
 cases q1:g ρ with
 |none=>rw[q1] at hg;cases hg
 |some q'=>rw[q1] at hg;cases hg;exact⟨F,ρ,q',r,q1,λdd F' H' r' s' pd=>k dd σ F' H' r' s' pd⟩
theorem zej {i:Nat}{y:Str}{yp:Pos}(hN:X.N.Nodup)(hi:X.N[i]?=some y)(hx:Loc X.env.scope y)(h:DV X B ca fd E e g)(hs:swapsWith e (some (.Name y yp)) pos.line X.env=pure false:=by rfl)(hf:X.fn y=true∨X.env.scope.names.lookup y=some .local:=by first | exact .inl rfl | exact .inr rfl | assumption) :
  DVs X B ca fd E (.Assign [.Name y yp] e pos::rest) (yE g) :=
 xb (wl (wk (i:=i) hN hi hx h hs hf) (u:=λ_ _ _=>False) λ_ _ _ _ _ _ z=>z.elim) λ_ _ _ q=>Vs q
theorem RX (h:DV X B ca fd E e g)(hs:swapsWith e none pos.line X.env=pure false:=by rfl):DVs X B ca fd E (.Expr e pos::rest) (yE g) :=
 xb (wl (wy h hs) (u:=λ_ _ _=>False) λ_ _ _ _ _ _ z=>z.elim) λ_ _ _ q=>Vs q
def ySeq (gs:SD)(h:EnvD->Option (EnvD×Xv)):EnvD->Option (EnvD×Xv):=λρ=>match gs ρ with
 |some (.next ρ')=>h ρ'
 |_=>none
theorem Qh (d1:DS X.nox B st gs)(d2:DVs X B ca fd E rest h2):DVs X B ca fd E (st::rest) (ySeq gs h2) :=
 xb (wl (PS.nox d1) d2) λD σ H ⟨F,ρ,q,r,hg,k⟩=>by
  unfold ySeq at hg
  split at hg
  ·rename_i ρ' q1
   exact⟨F,ρ,_,r,q1,λσ' F' H' r' s'=>⟨F',ρ',q,r',hg,λdd σ2 F2 H2 r2 s2 pd=>k dd σ2 F2 H2 r2 (s'.trans s2) pd⟩⟩
  ·cases hg
def yNo {α:Type}:EnvD->Option α:=λ_=>none
theorem ZX:DVs X B ca fd E rest yNo:=λ_ _ _ _ _ _ ⟨_,_,_,_,hg,_⟩=>by cases hg
def yIf (gt:EnvD->Option Bool)(h1 h2:EnvD->Option (EnvD×Xv)):EnvD->Option (EnvD×Xv):=λρ=>(gt ρ).bind λb=>if b=true then h1 ρ else h2 ρ
theorem ZD (hc:DT X.nox B c gt)(d1:DVs X B ca fd E sa h1)(d2:DVs X B ca fd E sb h2):DVs X B ca fd E (.If c sa sb pos::rest) (yIf gt h1 h2) :=
 xb (wl (Jl (PT.nox hc) d1 d2) (u:=λ_ _ _=>False) λ_ _ _ _ _ _ z=>z.elim) λD σ H ⟨F,ρ,q,r,hg,k⟩=>by
  unfold yIf at hg
  cases q1:gt ρ with
  |none=>rw[q1] at hg;cases hg
  |some b=>
   rw[q1] at hg
   have hg:(if b=true then h1 ρ else h2 ρ)=some q:=hg
   refine⟨F,ρ,b,r,q1,λF1 H1 e1=>?_⟩
   cases b with
   |true=>rw[if_pos rfl] at hg;exact iteT ⟨F1,ρ,q,r.ext e1,hg,λdd σ2 F2 H2 r2 s2 pd=>k dd σ2 F2 H2 r2 (e1.ff.trans s2) pd⟩
   |false=>rw[if_neg #[7]] at hg;exact iteF ⟨F1,ρ,q,r.ext e1,hg,λdd σ2 F2 H2 r2 s2 pd=>k dd σ2 F2 H2 r2 (e1.ff.trans s2) pd⟩
end
end Dv
namespace L6
open PySem PySem.Spec L2 L3 L4
open PyProof.Rows hiding St
def Trf (h:Heap)(e:Addr)(c:Value)(dd:Option Addr)(a0:Value)(T:Option Addr):Prop :=
 ∃oe vs,h.get? e=some oe/\oe.cls=c/\oe.dict=dd/\oe.data=.fields vs/\vs[0]?=some a0/\(T=none->vs[1]?=some .none) /\
  ∀t,T=some t->vs[1]?=some (.ref t)/\t≠e/\∃oT ts fl,h.get? t=some oT/\oT.data=.fields ts/\ts[3]?=some fl
theorem Trc.free {h:Heap}{e:Addr}{c:Value}{dd:Option Addr}{a0:Value}{T:Option Addr}(t:Trc h e c dd a0 T):Trf h e c dd a0 T:=by
 obtain⟨oe,vs,h1,h2,h3,h4,h5,h6,h7⟩:=t
 exact⟨oe,vs,h1,h2,h3,h4,h5,h6,λt q=>let ⟨a,b,oT,ts,c,d,e⟩:=h7 t q;⟨a,b,oT,ts,_,c,d,e⟩⟩
section
variable {M:Model}{A:Around}{E:Value->Shared->Prop}{s:Shared}
theorem Kk {base:Heap}{env:Env}{outer:List Env}{L e:Addr}{oe:Obj}{vs:Array Value}{head a0:Value}{hadNext:Bool}{Q:Unit->Shared->Prop}
  (hfr:A.frames=some (env::outer)) (hl:s.heap.FunFrames base (env::outer)) (hf:env.frame=some L)
  (he:s.heap.get? e=some oe) (hd:oe.data=.fields vs) (hsz:1 < vs.size) (h0:vs[0]?=some a0)
  (h:∀h' T,Trf h' e oe.cls oe.dict a0 (some T)->s.heap.objs.size<=T->Kpt (frs (env::outer)) e none s.heap h'->Q () { s with heap:=h' }) :
  wpAny M A (do let a <-frameOf env;let pl <-entryPlaceOf L hadNext;let b <-EntryCells.newEntry head a .none (rawInt L) .none pl;setField (.ref e) 1 b) Q E s:=by
 have hene:e∉(env::outer).filterMap (·.frame):=λhm=>by
  obtain⟨_,o,ho,hnf⟩:=hl.mem hm
  rw[he] at ho;cases ho;exact hnf vs hd
 refine wpAny_bind (wpAny_frameOf_fun hfr hl hf λh1 hs1=>?_)
 refine wpAny_bind (wpAny_entryPlaceOf λpl hpl=>?_)
 unfold EntryCells.newEntry newFields
 refine wpAny_bind (wpAny_newObj_type ?_ (hpl.sizeOk5 _ _ _ _ _))
 generalize hoT:({ cls:=.type "traceback",dict:=none,data:=.fields ([head,.ref L,.none,rawInt L,.none]++(if pl.isEmpty then List.replicate 6 Value.none else pl)).toArray }:Obj)=oT
 have dT:oT.data=.fields ([head,.ref L,.none,rawInt L,.none]++(if pl.isEmpty then List.replicate 6 Value.none else pl)).toArray:=by rw[<-hoT]
 have nfT:oT.isFreed=false:=by rw[<-hoT];rfl
 have he1:h1.get? e=some oe:=(hs1.2.1 e hene).trans he
 have he2:=Heap.get?_push_of_some (h:=h1) oT he1
 have hTe:h1.objs.size≠e:=Nat.ne_of_gt (Heap.lt_size he1)
 refine wpAny_setField he2 hd hsz ?_
 have hd3:=Obj.data_mapFields hd (·.setIfInBounds 1 (Value.ref h1.objs.size))
 have he3:=Heap.get?_update_self (Obj.mapFields (·.setIfInBounds 1 (Value.ref h1.objs.size))) he2 (Obj.isFreed_of_fields hd3)
 have hT3:=(Heap.get?_update_other (h1.push oT) (Obj.mapFields (·.setIfInBounds 1 (Value.ref h1.objs.size))) (Ne.symm hTe)).trans (Heap.get?_push_size h1 nfT)
 refine h _ h1.objs.size ⟨_,_,he3,Obj.cls_mapFields _ _,zgz _ _,hd3,?_,λq=>(nomatch q),λt q=>?_⟩ (Nat.le_of_eq hs1.1.symm) ?_
 ·rw[Array.getElem?_setIfInBounds_ne #[7]];exact h0
 ·cases q
  exact⟨by simp[hsz],hTe,_,_,rawInt L,hT3,dT,by simp⟩
 ·intro b o hbe _ hb
  have keep:∀u,h1.get? b=some u->((h1.push oT).update e (Obj.mapFields (·.setIfInBounds 1 (Value.ref h1.objs.size)))).get? b=some u:=λu hu=>by
   rw[Heap.get?_update_other _ _ (Ne.symm hbe)]
   exact Heap.get?_push_of_some _ hu
  refine⟨λhS=>keep o ((hs1.2.1 b hS).trans hb),?_⟩
  obtain⟨sl,q⟩:=hs1.2.2 b o hb
  exact⟨sl,keep _ q⟩
theorem noteF {base:Heap}{env:Env}{outer:List Env}{L e:Addr}{c a0:Value}{dd T:Option Addr}{Q:Unit->Shared->Prop}
  (hfr:A.frames=some (env::outer)) (hl:s.heap.FunFrames base (env::outer)) (hf:env.frame=some L) (ht:Trf s.heap e c dd a0 T)
  (h:∀h' T',Trf h' e c dd a0 (some T')->(s.heap.objs.size<=T'∨T=some T')->Kpt (frs (env::outer)) e T s.heap h'->Q () { s with heap:=h' }):wpAny M A (noteFrame (.ref e) env) Q E s:=by
 have ht0:=ht
 obtain⟨oe,vs,he,rfl,rfl,hd,h0,hn,hs⟩:=ht
 unfold noteFrame
 simp only[hf]
 cases T with
 |none=>
  have h1:=hn rfl
  refine wpAny_bind (wpAny_field he hd h1 ?_)
  rw[if_neg #[7]]
  exact Kk hfr hl hf he hd (Array.getElem?_eq_some_iff.mp h1).1 h0 λh' T' a b=>h h' T' a (.inl b)
 |some t=>
  obtain⟨h1,hte,oT,ts,fl,hT,hdT,h3⟩:=hs t rfl
  refine wpAny_bind (wpAny_field he hd h1 ?_)
  rw[if_pos (show (Value.ref t != Value.none)=true from by simp)]
  refine wpAny_bind (wpAny_field hT hdT h3 ?_)
  by_cases hfl:(fl==rawInt L)=true
  ·rw[if_pos hfl]
   exact wpAny_pure (h s.heap t ht0 (.inr rfl) λb o _ _ q=>⟨λ_=>q,o.slots,q⟩)
  rw[if_neg hfl]
  refine wpAny_bind (wpAny_setField hT hdT (Array.getElem?_eq_some_iff.mp h3).1 ?_)
  have other:∀b,b≠t->(s.heap.update t (Obj.mapFields (·.setIfInBounds 3 Value.none))).get? b=s.heap.get? b:=λb hb=>Heap.get?_update_other _ _ (Ne.symm hb)
  have ne:∀b o,s.heap.get? b=some o->(∀ws,o.data≠.fields ws)->b≠t:=λb o hb hnf q=>by
   subst q;rw[hT] at hb;cases hb;exact hnf ts hdT
  refine Kk hfr (hl.of_keeps λb o hb hnf=>⟨o,(other b (ne b o hb hnf)).trans hb,rfl⟩) hf ((other e (Ne.symm hte)).trans he) hd (Array.getElem?_eq_some_iff.mp h1).1 h0 λh' T' k1 k2 k3=>h h' T' k1 (.inl ?_) ?_
  ·have:(s.heap.update t (Obj.mapFields (·.setIfInBounds 3 Value.none))).objs.size=s.heap.objs.size:=by simp[Heap.update]
   rw[<-this];exact k2
  ·exact λb o hbe hbt hb=>k3 b o hbe (by simp) ((other b λq=>hbt (by rw[q])).trans hb)
theorem Q2 {e t:Addr}{c a0:Value}{dd fo:Option Addr}{Q:Unit->Shared->Prop}(ht:Trf s.heap e c dd a0 (some t))
  (h:∀h',Trf h' e c dd a0 (some t)->(fo=none->Trc h' e c dd a0 (some t))->Kpt [] e (some t) s.heap h'->Q () { s with heap:=h' }):wpAny M A (setFlight (.ref e) fo) Q E s:=by
 obtain⟨oe,vs,he,rfl,rfl,hd,h0,hn,hs⟩:=ht
 obtain⟨h1,hte,oT,ts,fl,hT,hdT,h3⟩:=hs t rfl
 have sz:3 < ts.size:=(Array.getElem?_eq_some_iff.mp h3).1
 unfold setFlight
 refine wpAny_bind (wpAny_field he hd h1 ?_)
 rw[if_pos (show (Value.ref t != Value.none)=true from by simp)]
 have he':(s.heap.update t (Obj.mapFields (·.setIfInBounds 3 (fo.elim Value.none λf=>rawInt f)))).get? e=some oe:=by rw[Heap.get?_update_other _ _ hte];exact he
 have hT':=Heap.get?_update_self (Obj.mapFields (·.setIfInBounds 3 (fo.elim Value.none λf=>rawInt f))) hT (Obj.isFreed_of_fields (Obj.data_mapFields hdT _))
 have h3':(ts.setIfInBounds 3 (fo.elim Value.none λf=>rawInt f))[3]?=some (fo.elim Value.none λf=>rawInt f):=Array.getElem?_setIfInBounds_self_of_lt sz
 refine wpAny_setField hT hdT sz (h _ ⟨oe,vs,he',rfl,rfl,hd,h0,hn,λt' q=>?_⟩ (λhfo=>⟨oe,vs,he',rfl,rfl,hd,h0,hn,λt' q=>?_⟩) λb o hb hbt q=>?_)
 ·cases q
  exact⟨h1,hte,_,_,_,hT',Obj.data_mapFields hdT _,h3'⟩
 ·cases q
  subst hfo
  exact⟨h1,hte,_,_,hT',Obj.data_mapFields hdT _,h3'⟩
 ·have:(s.heap.update t (Obj.mapFields (·.setIfInBounds 3 (fo.elim Value.none λf=>rawInt f)))).get? b=some o:=by
   rw[Heap.get?_update_other _ _ (λz=>hbt (by rw[z]))];exact q
  exact⟨λ_=>this,o.slots,this⟩
end
def cxT (X:Cx)(pn:List (Addr×Obj))(W:Value->Shared->Prop):Cx:={ X with pn:=pn++X.pn,xe:=W }
section
variable {X:Cx}{pins pn:List (Addr×Obj)}{W:Value->Shared->Prop}{σ:St}{H:Hp}{s:Shared}
theorem WU (I:Inv X pn σ H s):Inv (cxT X pn W) [] σ H s :=
 ⟨⟨I.ok.mod,I.ok.kind,I.ok.glob,I.ok.blt,I.ok.above,I.ok.inj,I.ok.has,I.ok.cab,I.ok.hd,I.ok.frames,I.ok.stk,I.ok.exf,I.ok.bs,I.ok.bsz,I.ok.noex,I.ok.exfs,I.ok.funs,I.ok.frf⟩,I.os,I.bare,I.base,I.loc,I.cell,I.free,I.freeC,λp hp=>by
  have hp':p∈(pn++X.pn)++[]:=hp
  rw[List.append_nil] at hp'
  exact I.pin p ((List.mem_append.mp hp').elim (λz=>List.mem_append_right _ z) λz=>List.mem_append_left _ z),I.hok,I.len⟩
theorem okT (ok:(cxT X pn W).Ok):X.Ok:=⟨ok.mod,ok.kind,ok.glob,ok.blt,ok.above,ok.inj,ok.has,ok.cab,ok.hd,ok.frames,ok.stk,ok.exf,ok.bs,ok.bsz,ok.noex,ok.exfs,ok.funs,ok.frf⟩
theorem wz (ok:X.Ok)(I:Inv (cxT X pn W) pins σ H s):Inv X pn σ H s :=
 ⟨ok,I.os,I.bare,I.base,I.loc,I.cell,I.free,I.freeC,λp hp=>I.pin p (by
  show p∈(pn++X.pn)++pins
  exact List.mem_append_left _ ((List.mem_append.mp hp).elim (λz=>List.mem_append_right _ z) λz=>List.mem_append_left _ z)),I.hok,I.len⟩
end
def WX (X:Cx)(pins:List (Addr×Obj))(E:St->XK):Value->Shared->Prop:=λex s'=>∃σ' ea C dd a0 T H',ex=.ref ea/\Inv X pins σ' H' s'/\Trf s'.heap ea C dd a0 T/\Own X pins H' ea/\(∀t,T=some t->Own X pins H' t)/\E σ' C dd H'
section
variable {X:Cx}{pins:List (Addr×Obj)}{E:St->XK}
theorem JJ:Dv.PassS (cxT X pins (WX X pins E)) E:=by
 intro pins' σ H s e s' I0 hx
 have I:Inv X pins σ H s:=wz (okT I0.ok) I0
 obtain⟨ea,C,dd,a0,T,H',rfl,hos,bare,un,hok,ht,h1,h2,h3,h4,hE⟩:=hx
 exact⟨σ,ea,C,dd,a0,some T,H',rfl,I.call' hos un hok bare λb z=>absurd z (by simp),ht.free,ku I h1 h3,λt q=>by cases q;exact ku I h2 h4,hE⟩
variable (hstk:X.stack=X.env::X.outer/\X.env.frame=some X.env.locals)
include hstk
omit hstk in
end
section
variable {X:Cx}{E:St->XK}{sts:List Stmt}{t:TS}
theorem zhl (h:∀pn,PSs (cxT X pn (WX X pn E)) sts t)(hx:∀pn e s',WX X pn E e s'->X.xe e s'):PSs X sts t:=λpins s σ H D I q=>
 wpAny_mono (h pins [] s σ H D (WU I) q) (λf s1 z=>by
  cases f with
  |next=>obtain⟨σ',H',I',q⟩:=z;exact⟨σ',H',wz I.ok I',q⟩
  |brk=>obtain⟨σ',H',I',q⟩:=z;exact⟨σ',H',wz I.ok I',q⟩
  |cont=>obtain⟨σ',H',I',q⟩:=z;exact⟨σ',H',wz I.ok I',q⟩
  |ret u=>obtain⟨v,σ',H',I',r,q⟩:=z;exact⟨v,σ',H',wz I.ok I',r,q⟩) (hx pins)
end
section
variable {P:Program}{w:World}{K:PySem.W.Frag}{mg:Str->Option Value}{base:Heap}{N:List Str}{qual:Str}{scope:Scope}{f:Addr}{cd:Value}{A:Around}{outer:List Env}{s:Shared}{H:Hp}{E:XK}
theorem GS {X:Cx}(hX:X=cxOf (CX1 P w) P w K mg base N qual scope f cd A outer s H E)(pn:List (Addr×Obj))(e:Value)(s':Shared)(h:WX X pn (λ_=>E) e s'):X.xe e s':=by
 obtain⟨σ',ea,C,dd,a0,T,H',rfl,I,ht,o1,o2,hE⟩:=h
 have hs0:X.s₀=s:=by subst hX;rfl
 have b1:s.heap.objs.size<=ea:=by have:=o1.1;rw[hs0] at this;exact this
 have b2:∀t,T=some t->s.heap.objs.size<=t/\H' t=none:=λt q=>⟨by have:=(o2 t q).1;rw[hs0] at this;exact this,(o2 t q).2.2.2.2.1⟩
 have h3:H' ea=none:=o1.2.2.2.2.1
 subst hX
 show wpAny _ _ (leaving _ _) _ _ _
 unfold leaving
 have hl:=I.stack
 have hfree:=I.stkFree
 have hb0:=I.base
 have hok:=I.hok
 have sz:s.heap.objs.size<=s'.heap.objs.size:=I.sz
 refine wpAny_bind (noteF I.ok.frames hl rfl ht λh1 T1 t1 l1 k1=>Q2 (s:={ s' with heap:=h1 }) t1 λh' _ t2 k2=>?_)
 have t2:=t2 rfl
 have kT:H' T1=none/\s.heap.objs.size<=T1:=by
  rcases l1 with l | l
  ·exact⟨hok.fresh l,Nat.le_trans sz l⟩
  ·exact⟨(b2 _ l).2,(b2 _ l).1⟩
 have k3:Kpt (frs ((envOfC qual scope s.heap.objs.size f cd)::outer)) ea T s'.heap h':=λb o n1 n2 q=>by
  have n3:some T1≠some b:=λz=>by
   cases z
   rcases l1 with l | l
   ·exact absurd (Heap.lt_size q) (Nat.not_lt.mpr l)
   ·exact n2 l
  obtain⟨q1,sl,q2⟩:=k1 b o n1 n2 q
  refine⟨λhb=>((k2 b o n1 n3 (q1 hb)).1 (by simp)),?_⟩
  obtain⟨sl2,q3⟩:=(k2 b _ n1 n3 q2).2
  exact⟨sl2,q3⟩
 have fr:∀b,b < s.heap.objs.size->b∉frs outer->b∉frs ((envOfC qual scope s.heap.objs.size f cd)::outer):=λb hb hn hm=>by
  unfold frs at hm
  rw[List.filterMap_cons] at hm
  have q:(envOfC qual scope s.heap.objs.size f cd).frame=some s.heap.objs.size:=rfl
  rw[q] at hm
  rcases List.mem_cons.mp hm with z | z
  ·omega
  ·exact hn z
 have lo:∀b o,s.heap.get? b=some o->b≠ea/\T≠some b/\b < s.heap.objs.size:=λb o e=>by
  have l:=Heap.lt_size e
  refine⟨Nat.ne_of_lt (Nat.lt_of_lt_of_le l b1),λz=>?_,l⟩
  exact absurd (Nat.lt_of_lt_of_le l (b2 b z).1) (Nat.lt_irrefl _)
 refine⟨ea,C,dd,a0,T1,H',rfl,I.os,I.bare,⟨λb o e n hb hx=>?_,λb o e n hb hx=>?_,λb o e n hx=>hb0.free b o e n hx,λb o e hx=>?_,hb0.tups,hb0.frzs,hb0.tbls⟩,λa u e=>?_,t2,b1,kT.2,h3,kT.1,hE⟩
 ·obtain⟨l1,l2,l3⟩:=lo b o e
  exact (k3 b o l1 l2 (hb0.keep b o e n hb hx)).1 (fr b l3 hb)
 ·obtain⟨l1,l2,l3⟩:=lo b o e
  obtain⟨sl,q⟩:=hb0.slot b o e n hb hx
  obtain⟨sl',q'⟩:=(k3 b _ l1 l2 q).2
  exact⟨sl',q'⟩
 ·obtain⟨l1,l2,l3⟩:=lo b o e
  obtain⟨o',q⟩:=hb0.there b o e hx
  obtain⟨sl',q'⟩:=(k3 b _ l1 l2 q).2
  exact⟨_,q'⟩
 ·refine (hok a u e).stay (λb v hb q=>?_) (λ_ z=>z) λ_ _ z=>z
  have ht:H' b≠none:=by
   rcases hb with rfl | z
   ·rw[e];simp
   ·rw[z];simp
  exact (k3 b v (λz=>ht (by rw[z];exact h3)) (λz=>ht (b2 b z).2) q).1 λz=>ht (hfree b z)
end
section
variable {X:Cx}{pn:List (Addr×Obj)}{E:St->XK}{C HE fI:Addr}{fd x:Str}{pos p cpos:Pos}{a:Expr}{t:TA}{k:Nat}{f0:FuncData}{ps:List Str}
end
section
variable {X:Cx}{MC:Addr}{ie:Nat}{t1:TS}{t2:(St->XK)->TS}{ts:Addr->Addr->Option Addr->TS}{body suite:List Stmt}{b0:Stmt}{xM n:Str}{pM hpos pos:Pos}
end
end L6
namespace Dv
open PySem PySem.Spec L2 L3 L4 L6
open PyProof.Rows hiding St
section
variable {P:Program}{w:World}{K:PySem.W.Frag}{mg:Str->Option Value}{base:Heap}{N:List Str}{qual:Str}{scope:Scope}{f:Addr}{cd:Value}{A:Around}{outer:List Env}{s0:Shared}{H0:Hp}
variable {X:Cx}{pn:List (Addr×Obj)}{E:St->XK}{B:Bs}{ca:Str->Addr}{C HE fI:Addr}{fd x nm:Str}{pos p cpos:Pos}{a:Expr}{rest:List Stmt}{k:Nat}{gd:EnvD->Option D}{f0:FuncData}{ps:List Str}{g:EnvD->Option (EnvD×Xv)}
def mirY (N:List Str)(n:Nat)(g:EnvD->Option (EnvD×Xv)):List En->Option Xv:=λxs=>if xs.length=n then (g (stE N (xs.map some))).map (·.2) else none
theorem Wu {n:Nat}:∀xs o,mirY N n g xs=some o->xs.length=n:=λxs o h=>by
 unfold mirY at h
 split at h
 ·assumption
 ·cases h
theorem KS {st:Stmt}(F:Fun K x qual st f f0)(S:FnScope N ps (zd st))
  (hb:∀(cdv:Value) (A:Around) (outer:List Env) (s:Shared) (H:Hp) (E:XK) (B:Bs) (pn:List (Addr×Obj)),Room k (A.deeper (envOfC qual (zd st) s.heap.objs.size f cdv)) ->
   DVs (cxT (cxOf (CX1 P w) P w K mg base N qual (zd st) f cdv A outer s H E) pn (WX (cxOf (CX1 P w) P w K mg base N qual (zd st) f cdv A outer s H E) pn λ_=>E)) B ca fd (λ_=>E) (zk st) g) :
  FnOk P w K mg base (CX1 P w) (k+1) f f0 ps (ySp ⟨K,w⟩ ca fd ps.length (mirY N ps.length g)):=by
 obtain⟨oc,od,kV,doc,pm,an,cdv,ct,osl,rfl,lk,hcd⟩:=F.ex
 refine Zw lk hcd S (λvs H Q E h=>?_) λA outer s H vs Q E hr h=>?_
 ·obtain⟨F,xs,o,_,hl,hp,_⟩:=h
  rw[<-vI hp];exact hl
 ·obtain⟨F0,xs,q,fh,hl,hp,hm,k⟩:=h
  unfold mirY at hm
  rw[if_pos hl] at hm
  cases q1:g (stE N (xs.map some)) with
  |none=>rw[q1] at hm;cases hm
  |some q2=>
   rw[q1] at hm
   cases hm
   exact⟨λ_ σ H'=>lVs ⟨K,w⟩ ⟨F0,H⟩ ca fd (λ_=>E) g σ H',zhl (E:=λ_=>E) (λpn=>hb cdv A outer s H E ⟨F0,H⟩ pn hr) (GS rfl),F0,_,q2,ur (ps:=ps) fh hp,q1,λdd σ' F' H' r' s' pd=>k dd F' H' r'.ex pd⟩
end
inductive It where
 |con (x:Str) | pay | isx (b:Bool)
def tIt (ie:Nat)(ea:Addr)(dd:Option Addr)(fd:Str):It->TE
 |.con x=>λ_ H Q=>Q (.str x) H
 |.pay=>λσ H Q=>σ[ie]?=some (some (.ref ea))/\∃dx v,dd=some dx/\H dx=some (.xd [(fd,v)])/\Q v H
 |.isx b=>λσ H Q=>σ[ie]?=some (some (.ref ea))/\(dd=none∨∃dx v,dd=some dx/\H dx=some (.xd [(fd,v)]))/\Q (.bl b) H
def ItOk (X:Cx)(C:Addr)(ie:Nat)(fd:Str)(e:Expr)(it:It):Prop:=∀ea oe dd,oe.cls=.ref C->oe.dict=dd->(∃fs,oe.data=.fields fs)->PE (cxE X ea [(ea,oe)]) e (tIt ie ea dd fd it)
section
variable {X:Cx}{B:Bs}{C HE fI M2 MC:Addr}{ca:Str->Addr}{fd n x nm0:Str}{ie i:Nat}{pos p p2 p3 pI pC:Pos}{e:Expr}{es:List Expr}{it:It}{its:List It}
def unset:Option (Option En)->Bool
 |some none=>true
 |_=>false
@[simp]theorem zk5:unset (some none)=true:=rfl
theorem za0 {o:Option (Option En)}(h:unset o=true):o=some none:=by
 unfold unset at h
 split at h
 ·rfl
 ·cases h
variable {gs:SD}{gx:EnvD->Option (EnvD×Xv)}{body:List Stmt}{xM fx:Str}{pM hpos pF epos lpos:Pos}
end
section
variable {X:Cx}{B:Bs}{pos:Pos}
end
section
end
section
variable {X:Cx}{pins:List (Addr×Obj)}{σ:St}{H:Hp}{s:Shared}
end
section
variable {X:Cx}{B:Bs}{ca:Str->Addr}{fd:Str}{E:St->XK}{pos:Pos}{tg iter:Expr}{body rest:List Stmt}{t:Tgt}{gi:EnvD->Option #[3]}{gbd:SD}{gxb:EnvD->Option (EnvD×Xv)}
end
end Dv
namespace L6
open PySem PySem.Spec L2 L3 L4
open PyProof.Rows hiding St
structure XC0 (K:PySem.W.Frag)(C:Addr):Prop where
 cls:∃dd cd k0 k1 k2 k3 k5 bm,K.lookup C=some ⟨.type "type",dd,.cls cd,#[k0,k1,k2,k3,some (.builtin "ValueError.__new__"),k5]⟩/\cd.mro=.ref C::bm/\cd.hasDel=false /\
  PySem.W.tailIn K vB bm=true/\PySem.W.nsOkIn K cd.ns=true/\nsIn K cd.ns "__init__" = some none
 kp:keepIn K (.ref C)=true
section
variable {P:Program}{w:World}{A:Around}{E:Value->Shared->Prop}{H:Heap}{g:Array GenState}{dr:Drawn}{t:Nat}{os:OsState}{C N:Addr}{vs:List Value}{mN:Str->Option Value}
variable {nm q:Str}{bs bm bb:List Value}{hd:Bool}{sn:List Str}{sb:List Value}{ab:Bool}{col:Option Bool}{dl:Option Addr}{k0 k1 k2 k3 k5:Option Value}{b0 nid iid:String}
theorem ze1 (F:ExcBaseFacts b0 nid iid bb)(T:OwnTail H bb bm){Q:Fin->Shared->Prop}(c:H.get? C=some (excClassObj nm q C N bs bm hd sn sb ab col dl k0 k1 k2 k3 k5 nid))(n:H.Ns N mN)(i:mN "__init__" = none)
  (k:∀h' e t',H.objs.size<=e->h'.get? e=some { cls:=.ref C,data:=.fields #[.ref t',.none,.none,.none,.bool false,.none] }->(∀b o,H.get? b=some o->h'.get? b=some o)->Q (.done (.ret (.ref e))) ⟨h',g,dr,t,os⟩) (few:vs.length<=sizeLine) :
  wpAny (model P w) A (Builtin.«type.__call__» ⟨.ref C::vs,[]⟩) Q E ⟨H,g,dr,t,os⟩:=by
 have me:(Value.ref C::bm).contains (.ref C)=true:=List.contains_iff_mem.mpr (.head _)
 have c':=qE (C:=C) (vs:=vs) c
 have T':=T.keeps (h':=made H C vs) λ_ _ z=>qE z
 repeat
  first
   |with_reducible refine wpAny_loadPart_at c ?_
   |with_reducible refine wpAny_madeBy_exc c ?_
   |wp_step
 apply codeAny_call_builtin_code (Code.quiet_builtin _ F.quiet)
 apply wpAny_check_new_subT F T c
 refine codeAny_exc_new_subT F T c ?_ few
 show wpAny (model P w) A _ _ _ ⟨made H C vs,g,dr,t,os⟩
 unfold isInstance
 repeat
  first
   |with_reducible refine wpAny_loadPart_at VE ?_
   | (with_reducible refine wpAny_isSubtype_exc c' ?_;rw[me])
   |wp_step
 show wpAny (model P w) A (typeLookup (.ref C) "__init__") _ _ _
 apply wpAny_typeLookup_tail c' (zfr n) T' F.mroIs F.init.lookup
 rw[i]
 refine wpAny_holding (wpAny_bind (wpAny_of_eq (F.init.bind _) (wpAny_bind ?_)))
 refine zdc F T' c' VE few λh' e1 e2=>?_
 wp_walk
 exact k h' _ _ (Nat.le_succ _) e1 λb o z=>e2 b o (Nat.ne_of_lt (Nat.lt_succ_of_lt (Heap.lt_size z))) (qE z)
theorem GB (F:ExcBaseFacts b0 nid iid bb)(T:OwnTail H bb bm){Q:Value->Shared->Prop}(c:H.get? C=some (excClassObj nm q C N bs bm hd sn sb ab col dl k0 k1 k2 k3 k5 nid))(n:H.Ns N mN)(i:mN "__init__" = none)
  (k:∀h' e t',H.objs.size<=e->h'.get? e=some { cls:=.ref C,data:=.fields #[.ref t',.none,.none,.none,.bool false,.none] }->(∀b o,H.get? b=some o->h'.get? b=some o)->Q (.ref e) ⟨h',g,dr,t,os⟩) (few:vs.length<=sizeLine) :
  wpAny (model P w) A (call (.ref C) vs) Q E ⟨H,g,dr,t,os⟩:=by
 have ty:(⟨H,g,dr,t,os⟩:Shared).TypeIs (.ref C) "type" := ⟨_,c,rfl⟩
 have l1:=tc_lookup
 have l2:=tc_bind (.ref C)
 apply wpAny_call
 apply codeAny_of_tree
 show wpAny (model P w) _ (callAny (.ref C) ⟨vs,[]⟩) _ _ _
 repeat
  any_goals first
   |assumption
   |with_reducible refine wpAny_loadPart_at c ?_
   |wp_step
 refine⟨rfl,codeAny_call_builtin_at (Code.quiet_builtin _ #[13]) entry_typeCall (wpAny_check_type_call_sub c ?_)⟩
 exact ze1 (few:=few) F T c n i λh' e t' l m s=>k h' e t' l m s
end
theorem za9 {K:PySem.W.Frag}{h:Heap}{N:Addr}{mg:Str->Option Value}{n:Str}(X:K.In h)(G:h.Ns N mg)(e:nsIn K N n=some none):mg n=none:=by
 obtain⟨o,es,ep,ho,hd,_,hf⟩:=G
 unfold nsIn at e
 split at e
 ·rename_i q
  have:=X _ _ q
  rw[ho] at this
  cases this
  cases hd
  split at e
  ·cases e
  ·rename_i he
   rw[<-hf]
   unfold nsFind findBy
   rw[<-Array.find?_toList,he]
   rfl
 ·cases e
theorem XC0.at {K:PySem.W.Frag}{C:Addr}{h:Heap}(x:XC0 K C)(X:K.In h):∃nm q N bs bm hdct sn sub ab col dd k0 k1 k2 k3 k5 mN,h.get? C=some (excClassObj nm q C N bs bm hdct sn sub ab col dd k0 k1 k2 k3 k5 "ValueError.__new__")/\h.Ns N mN/\mN "__init__" = none/\OwnTail h vB bm:=by
 obtain⟨dd,cd,k0,k1,k2,k3,k5,bm,e,m,hdel,ht,hok,hi⟩:=x.cls
 obtain⟨nm,bs,mro,ns,qn,hd,sn,sub,ab,col,del⟩:=cd
 dsimp only at m hdel hok hi
 subst m hdel
 have G:h.Ns ns (h.nsMap ns):=.of_isNs (PySem.W.isNs_of_in X hok)
 refine⟨nm,qn,ns,bs,bm,hd,sn,sub,ab,col,dd,k0,k1,k2,k3,k5,_,X _ _ e,G,?_,PySem.W.tail_of_in X ht⟩
 exact za9 X G hi
section
variable {X:Cx}{pn:List (Addr×Obj)}{E:St->XK}{C:Addr}{x:Str}{pos p cpos:Pos}{a:Expr}{t:TA}
def zcp (C:Addr)(E:St->XK)(t:TA):TS:=λ_ σ H=>t σ H λvs H1=>∃v,vs=[v]/\E σ (.ref C) none H1
theorem Rg (hc:X.calm=true)(xc:XC0 X.K C)(hg:Gl X x)(hm:X.mg x=some (.ref C))(ha:PA (cxT X pn (WX X pn E)) [a] t)(hdb:#[20]=false:=by decide)
  (he:starEach [a] X.env=(false,eval a X.env)::starEach [] X.env:=by rfl) (hpl:(backTo cpos (starEach [] X.env)).any (·.1)=false:=by rfl) :
  PS (cxT X pn (WX X pn E)) (.Raise (some (.Call #[11] [a] [] cpos)) none pos) (zcp C E t):=by
 intro pins s σ H D I h
 have hh:X.A.handled=none:=I.ok.hd hc
 obtain⟨nm,qq,N',bs,bm,hdct,sn,sub,ab,col,dd,k0,k1,k2,k3,k5,mN,hC,hN,hi,T⟩:=xc.at I.ok.mod.kin
 have hbase:bm.contains (.type "BaseException")=true:=T.hasType #[7]
 rw[arm_exec_Raise]
 refine wpAny_bind (wpAny_standAt ?_)
 show wpAny _ _ (raiseStmt X.env (some (do let v <-eval (.Call #[11] [a] [] cpos) X.env;standAt pos;pure v)) none) _ _ _
 refine Uz (nm:=nm) (q:=qq) (C:=C) (N:=N') (bs:=bs) (bm:=bm) (hdct:=hdct) (sn:=sn) (sub:=sub) (ab:=ab) (col:=col) (dd:=dd) (k0:=k0) (k1:=k1) (k2:=k2) (k3:=k3) (k5:=k5) (newId := "ValueError.__new__") hbase hh (wpAny_bind ?_)
 refine wpAny_Call_Name_kw (x5 (X:=cxT X pn (WX X pn E)) I hg hm ?_ hdb)
 refine PySem.W.callWith_K (h₀:=X.base) I.ok.mod.kin xc.kp (thn (ha cpos pins s σ H _ I h) λus s1 ⟨vs,H1,I1,r1,v,ev,q⟩=>⟨I1.kIn,?_⟩) he hpl
 subst ev
 obtain⟨nm',qq',N2,bs',bm',hdct',sn',sub',ab',col',dd',k0',k1',k2',k3',k5',mN',hC',hN',hi',T'⟩:=xc.at I1.kIn
 have hl1:us.length<=sizeLine:=by rw[<-r1.length,List.length_cons,List.length_nil,sizeLine_eq];omega
 obtain⟨hh1,g,d,tk,os⟩:=s1
 refine GB PySem.F.excBase_ValueError T' hC' hN' hi' (λh' e t' l1 l2 l3=>wpAny_bind (wpAny_standAt (wpAny_pure ?_))) hl1
 have I2:Inv (cxT X pn (WX X pn E)) pins σ (upd H1 e (ExO e C t' none)) ⟨h',g,d,tk,os⟩:=I1.laid (a:=e) (o:=ExO e C t' none) (h':=h') (t':=tk) (λb o q=>l3 b o q) l1 (UG l2)
 have hne:H1 e=none:=I1.hok.fresh l1
 have hee:upd H1 e (ExO e C t' none) e=some (ExO e C t' none):=zy
 refine⟨e,t',none,rfl,I2.bk _ _ hC,l2,?_⟩
 have I3:=zdv I2 hee
 have eq:del (upd H1 e (ExO e C t' none)) e=H1:=by
  funext b
  by_cases h1:b=e
  ·subst h1;rw[Z0,hne]
  ·rw[qF h1,zr h1]
 rw[eq] at I3
 exact⟨σ,e,.ref C,none,.ref t',none,_,rfl,wz (okT I3.ok) I3,⟨_,_,l2,rfl,rfl,rfl,rfl,λ_=>rfl,λ_ z=>(nomatch z)⟩,ku (wz (okT I1.ok) I1) l1 hne,λ_ z=>(nomatch z),q⟩
end
end L6
namespace Dv
open PySem PySem.Spec L2 L3 L4 L6
open PyProof.Rows hiding St
section
variable {X:Cx}{pn:List (Addr×Obj)}{E:St->XK}{B:Bs}{ca:Str->Addr}{C:Addr}{fd x nm:Str}{pos p cpos:Pos}{a:Expr}{rest:List Stmt}{gd:EnvD->Option D}
def xU (nm:Str)(gd:EnvD->Option D):EnvD->Option (EnvD×Xv):=λρ=>(gd ρ).map λ_=>(ρ,nm,none)
theorem uB (hC:ca nm=C)(hc:X.calm=true)(xc:XC0 X.K C)(hg:Gl X x)(hm:X.mg x=some (.ref C))(ha:DE (cxT X pn (WX X pn E)).nox B a gd)(hdb:#[20]=false:=by decide +kernel)
  (he:starEach [a] X.env=(false,eval a X.env)::starEach [] X.env:=by rfl) (hpl:(backTo cpos (starEach [] X.env)).any (·.1)=false:=by rfl) :
  DVs (cxT X pn (WX X pn E)) B ca fd E (.Raise (some (.Call #[11] [a] [] cpos)) none pos::rest) (xU nm gd) :=
 xb (wl (Rg hc xc hg hm (PA.nox (zW ha yr he)) hdb he hpl) (u:=λ_ _ _=>False) λ_ _ _ _ _ _ z=>z.elim) λD σ H ⟨F,ρ,q,r,hg,k⟩=>by
  unfold xU at hg
  cases q1:gd ρ with
  |none=>rw[q1] at hg;cases hg
  |some d=>
   rw[q1] at hg
   cases hg
   refine⟨F,ρ,d,r,q1,λv F' H' e1 p1=>⟨v,rfl,?_⟩⟩
   have:=k none σ F' _ (r.ext e1) e1.ff rfl
   rw[hC] at this
   exact this
end
theorem yx {X:Cx}{B:Bs}{e:Expr}{es:List Expr}{g:EnvD->Option D}{gs:EnvD->Option #[3]}(hs:starEach (e::es) X.env=(false,eval e X.env)::starEach es X.env)(ha:DE X B e g)(hr:DAs X B es gs):DAs X B (e::es) (gCons' g gs):=zi ha hr hs
end Dv
namespace L6
open PySem PySem.Spec L2 L3 L4
open PyProof.Rows hiding St
section
variable {prog:Program}{w:World}{A:Around}{E:Value->Shared->Prop}
theorem Wg {it l:Addr}{vs:Array Value}(ne:l≠it):∀(n i:Nat) (s:Shared) (Q:List Value->Shared->Prop),s.heap.IsListIter it l i->s.heap.IsList l vs->i+n<=vs.size ->
  (∀h',h'.IsListIter it l (i+n)->Heap.SameBut it s.heap h'->Q ((vs.toList.drop i).take n) { s with heap:=h' })->wpAny #[19] A (draw (.ref it) n) Q E s
 |0,i,s,Q,a,_,_,k=>by
  show wpAny _ _ (pure []) Q E s
  refine wpAny_pure ?_
  have:=k s.heap a (Heap.SameBut.refl ..)
  simpa using this
 |n+1,i,s,Q,a,b,c,k=>by
  have lt:i < vs.size:=by omega
  show wpAny _ _ (pyNext (.ref it) >>= _) Q E s
  refine wpAny_bind (wpAny_pyNext_list_item a b (x:=vs[i]) (by simp[lt]) λh1 a1 s1=>wpAny_bind (wpAny_holding ?_))
  refine Wg ne n (i+1) _ _ a1 (b.extBut s1.extBut ne) #[1] λh2 a2 s2=>wpAny_pure ?_
  have e:vs.toList.drop i=vs[i]::vs.toList.drop (i+1):=by simp[List.drop_eq_getElem_cons,lt]
  have:=k h2 (by rw[show i+(n+1)=i+1+n by omega];exact a2) (s1.trans s2)
  rw[e,List.take_succ_cons] at this
  exact this
theorem zdu {env:Env}{es:List Expr}{x1}{pos:Pos}{l:Addr}{vs:Array Value}{s:Shared}{Q:Unit->Shared->Prop}(hh:A.handled=none)(hl:s.heap.IsList l vs)(hn:(assignEach es env).length=vs.size)(hst:(assignEach es env).findIdx? (·.1)=none)
  (k:∀h',Heap.ExtBut s.heap.objs.size s.heap h'->wpAny #[19] A (assignInOrder ((assignEach es env).map (·.2)) vs.toList) Q E { s with heap:=h' }):wpAny #[19] A (assign (.Tuple es x1 pos) env (.ref l)) Q E s:=by
 rw[arm_assign_Tuple]
 refine wpAny_bind (wpAny_standAt ?_)
 unfold unpack
 rw[hn,hst]
 refine wpAny_bind (wpAny_holding ?_)
 have ne:l≠s.heap.objs.size:=by obtain⟨o,ho,_⟩:=hl;exact Nat.ne_of_lt (Heap.lt_size ho)
 unfold unpackItems
 refine wpAny_bind ?_
 unfold notIterableAtAll
 refine wpAny_bind (wpAny_specialOf hl.typeIs PySem.F.slot_list_iter.lookup (wpAny_pure ?_))
 simp only[Bool.false_eq_true,if_false]
 refine wpAny_bind (wpAny_holding (wpAny_pyIter_list hl (wpAny_bind (wpAny_holding ?_))))
 refine Wg ne vs.size 0 _ _ ⟨_,Heap.get?_push_size _ rfl,rfl,rfl⟩ (hl.push _) #[1] λh1 a1 s1=>?_
 rw[show List.take vs.size (List.drop 0 vs.toList)=vs.toList by rw[List.drop_zero];exact List.take_of_length_le (by simp),if_neg (by simp)]
 refine wpAny_bind (wpAny_holding (wpAny_pyNext_list_end hh a1 ((hl.push _).extBut s1.extBut ne) (by simp) λh2 e2=>?_))
 simp only[Option.isSome_none,Bool.false_eq_true,if_false]
 exact wpAny_pure (k h2 λb o hb e=>e2 b o hb (s1.extBut b o hb (Heap.get?_push_of_some _ e)))
end
def gTupL (K:PySem.W.Frag)(n:Nat)(t:TGs):TG:=λv σ H Q=>∃a xs,v=.ref a/\SqL K H a xs/\xs.length=n/\t xs σ H Q
theorem qP {X:Cx}{es:List Expr}{k:Nat}{t:TGs}{n:Nat}{pos:Pos}(hc:X.calm=true)(h:PGs X es t)(hn:(assignEach es X.env).length=n:=by rfl)(hst:(assignEach es X.env).findIdx? (·.1)=none:=by rfl):PG X (.Tuple es k pos) (gTupL X.K n t):=by
 intro pins s σ H v u Q I r ⟨a,xs,e1,hq,hl,hw⟩
 subst e1
 cases r
 obtain⟨its,rv,pl,hz⟩:=I.list hq
 refine zdu (I.ok.hd hc) pl.isList (by simp[hn,<-hl,rv.length]) hst λh' hx=>?_
 have I1:Inv X pins σ H { s with heap:=h' }:=I.kept (t':=s.toks) λb o e=>hx b o (Nat.ne_of_lt (Heap.lt_size e)) e
 exact h pins _ σ H xs _ Q I1 (by simpa using rv) hw
end L6
namespace Dv
open PySem PySem.Spec L2 L3 L4 L6
open PyProof.Rows hiding St
def sAsgL (is:List Nat)(g:EnvD->Option D):SD:=λρ=>(g ρ).bind λd=>match d with
 |.lst ds=>if ds.length=is.length then some (.next (z7 is ds ρ)) else none
 |_=>none
theorem qD {X:Cx}{B:Bs}{tg e:Expr}{pos:Pos}{is:List Nat}{g:EnvD->Option D}(he:DE X B e g)(hg:PG X tg (gTupL X.kw is.length (gNames is)))(hs:swapsWithSole [tg] e pos.line X.env=pure false:=by rfl)(hw:swappedStores [tg] e X.env=pure none:=by rfl)
  (h1:(assignEach [tg] X.env).map (·.2)=[assign tg X.env]:=by rfl):DS X B (.Assign [tg] e pos) (sAsgL is g) :=
 zD (uT he hg hs hw h1) λE σ H ⟨F,ρ,fl,r,hg,k⟩=>by
  unfold sAsgL at hg
  cases q:g ρ with
  |none=>rw[q] at hg;cases hg
  |some d=>
   rw[q,Option.bind_some] at hg
   cases d with
   |lst ds=>
    replace hg:(if ds.length=is.length then some (Fl.next (z7 is ds ρ)) else none)=some fl:=hg
    by_cases hl:ds.length=is.length
    ·rw[if_pos hl] at hg
     cases hg
     refine⟨F,ρ,_,r,q,λv F1 H1 e1 p1=>?_⟩
     obtain⟨a,vs,rfl,h1,h2⟩:=p1
     exact⟨a,vs,rfl,.of (e1.fh _ _ h1),by rw[<-h2.length];exact hl,ZJ (all:=is) (r.ext e1) h2 hl (λi hi=>hi) λσ' r' _=>k σ' F1 H1 r' e1.ff⟩
    ·rw[if_neg hl] at hg;cases hg
   |_=>cases hg
@[simp]theorem zk8 {is:List Nat}{g:EnvD->Option D}{ρ:EnvD}:sAsgL is g ρ=(g ρ).bind λd=>match d with
 |.lst ds=>if ds.length=is.length then some (.next (z7 is ds ρ)) else none
 |_=>none:=rfl
end Dv
namespace L6
open PySem PySem.Spec L2 L3 L4
open PyProof.Rows hiding St
structure XN (K:PySem.W.Frag)(C M:Addr):Prop where
 sub:subIn K (.ref C) (.ref M)=some false
 nt:PySem.W.instIn K (.ref M) (.type "tuple")=some false
 cls:(clsIn K M).isSome=true
 exc:subIn K (.ref M) (.type "BaseException")=some true
theorem Kn {K:PySem.W.Frag}{e C M:Addr}{prog:Program}{w:World}{A:Around}{E:Value->Shared->Prop}{s:Shared}{Q:Bool->Shared->Prop}{oe:Obj}(xm:XN K C M)(X:K.In s.heap)(he:s.heap.get? e=some oe)(hc:oe.cls=.ref C)(h:Q false s) :
  wpAny #[19] A (excMatches (.ref e) (.ref M)) Q E s:=by
 obtain⟨hh,g,d,t,os⟩:=s
 have L0:=PySem.W.looks_instIn (M:=model prog w) X xm.nt
 have L1:=Q9 (M:=model prog w) he hc
 have L2:=PySem.W.looks_subIn (M:=model prog w) X xm.sub
 have L3:=PySem.W.looks_subIn (M:=model prog w) X xm.exc
 have L4:Looks #[19] hh (isType (.ref M)) true:=by
  have z0:=xm.cls
  unfold clsIn at z0
  split at z0
  ·rename_i c' d' cd' sl' ho
   intro A' Q' E' s' k q
   unfold isType loadHead
   exact wpAny_bind (wpAny_loadPart (k _ _ (X _ _ ho)) (wpAny_pure q))
  ·cases z0
 unfold excMatches isExcClass
 repeat (first | with_reducible refine L0.at ?_ | with_reducible refine L1.at ?_ | with_reducible refine L2.at ?_ | with_reducible refine L3.at ?_ | with_reducible refine L4.at ?_ | wp_step)
 all_goals first | exact h | skip
structure Hd where
 MC:Addr
 ie:Option Nat
 ts:Addr->Addr->Option Addr->TS
def sWish (h:Hd)(D:Ends)(σ':St)(C:Addr)(dd:Option Addr)(H':Hp):Prop:=∀ea,H' ea=none->match h.ie with
 |some i=>h.ts ea C dd { nx:=λσ2 H2=>D.nx (σ2.set i none) H2,rt:=λ_ _=>False } (σ'.set i (some (.ref ea))) H'
 |none=>h.ts ea C dd { nx:=D.nx,rt:=λ_ _=>False } σ' H'
def hWish (K:PySem.W.Frag):List Hd->Ends->St->XK
 | [],_=>λ_ _ _ _=>False
 |h::hs,D=>λσ' C' dd H'=>∃C,C'=.ref C/\((XM K C h.MC/\sWish h D σ' C dd H')∨(XN K C h.MC/\hWish K hs D σ' C' dd H'))
inductive HsOk (X:Cx):List ExceptHandler->List Hd->Prop
 |nil:HsOk X [] []
 |as {xM n:Str} {MC:Addr} {ie:Nat} {ts:Addr->Addr->Option Addr->TS} {b0:Stmt} {suite:List Stmt} {rest:List ExceptHandler} {hds:List Hd} {pM hpos:Pos} (hg:Gl X xM) (hm:X.mg xM=some (.ref MC)) (hdb:(xM==("__debug__" : Str))=false)
   (hi:X.N[ie]?=some n) (hl:X.env.scope.names.lookup n=some .local) (hs:∀ea oe C dd,oe.cls=.ref C->oe.dict=dd->(∃fs,oe.data=.fields fs)->PSs (cxE X ea [(ea,oe)]) (b0::suite) (ts ea C dd)) (hr:HsOk X rest hds) :
   HsOk X (.ExceptHandler (some (.Name xM pM)) (some n) (b0::suite) hpos::rest) (⟨MC,some ie,ts⟩::hds)
 |no {xM:Str} {MC:Addr} {ts:Addr->Addr->Option Addr->TS} {b0:Stmt} {suite:List Stmt} {rest:List ExceptHandler} {hds:List Hd} {pM hpos:Pos} (hg:Gl X xM) (hm:X.mg xM=some (.ref MC)) (hdb:(xM==("__debug__" : Str))=false)
   (hs:∀ea oe C dd,oe.cls=.ref C->oe.dict=dd->(∃fs,oe.data=.fields fs)->PSs (cxE X ea [(ea,oe)]) (b0::suite) (ts ea C dd)) (hr:HsOk X rest hds) :
   HsOk X (.ExceptHandler (some (.Name xM pM)) none (b0::suite) hpos::rest) (⟨MC,none,ts⟩::hds)
section
variable {X:Cx}{pins:List (Addr×Obj)}
theorem YJ (hN:X.N.Nodup):∀ {hs:List ExceptHandler} {hds:List Hd},HsOk X hs hds->∀ {σ':St} {H':Hp} {s:Shared} {ea T:Addr} {C' a0:Value} {dd:Option Addr} {D:Ends},Inv X pins σ' H' s->Trc s.heap ea C' dd a0 (some T)->Own X pins H' ea->Own X pins H' T ->
  hWish X.K hds D σ' C' dd H'->wpAny #[9] X.A (handleBy (.ref ea) X.env hs) (SP X pins D) X.xe s
 |_,_,.nil,_,_,_,_,_,_,_,_,_,_,_,_,_,q=>q.elim
 |_,_,@HsOk.as _ xM n MC ie ts b0 suite rest hds pM hpos hg hm hdb hi hl hs hr,σ',H',s,ea,T,C',a0,dd,D,I,t5,o1,o5,q=>by
  obtain⟨C,rfl,q⟩:=q
  have h3:H' ea=none:=o1.2.2.2.2.1
  have I':Inv (cxE X ea []) pins σ' H' s:=kh I λp hp=>nomatch hp
  obtain⟨oe5,vs5,he5,hc5,hd5,hf5,_⟩:=id t5
  refine wpAny_handleBy_cons (codeAny_handlers_test (x5 (X:=cxE X ea []) I' hg hm ?_ hdb)) (by intro z;cases z)
  rcases q with⟨xm,q⟩ | ⟨xn,q⟩
  ·refine J9 xm I.kIn he5 hc5 ?_
   refine codeAny_handlers_suite_as ?_
   refine Wm t5 λh6 t6 k6=>?_
   have I6:=uk I (k6.wide (S':=frs X.stack) λb z=>nomatch z) o1 λt z=>by cases z;exact o5
   refine YH (X:=X) (v:=.ref ea) I6 hN hi (.inl hl) rfl (λs7 I7 sb=>?_) (.inr hl)
   obtain⟨oe,vs,he,hc,hd,hf,_⟩:=id t6
   have he7:s7.heap.get? ea=some oe:=by
    obtain⟨a,sb1,sb2⟩:=sb
    refine (sb1.2 ea ?_).trans he
    rintro rfl
    rcases sb2 with z | z
    ·exact o1.2.1 z
    ·exact o1.2.2.1 n ea z rfl
   have I7':Inv (cxE X ea [(ea,oe)]) pins (σ'.set ie (some (.ref ea))) H' s7:=kh I7 λp hp=>by
    cases hp with
    |head=>exact⟨he7,h3,o1.2.1,o1.2.2.2.2.2,λv z=>by rw[hf] at z;cases z⟩
    |tail _ z=>cases z
   refine wpAny_mono (hs ea oe C dd hc hd ⟨vs,hf⟩ pins s7 _ H' _ I7' (q ea h3)) (λf s8 z=>?_) λ_ _ z=>False.elim z
   cases f with
   |next=>
    obtain⟨σ8,H8,I8,q8⟩:=z
    exact Gy (QI I.ok I8) hN hi hl λs9 I9=>⟨_,_,I9,q8⟩
   |ret v=>obtain⟨_,_,_,_,_,z⟩:=z;exact z.elim
   |brk=>obtain⟨_,_,_,z⟩:=z;exact z.elim
   |cont=>obtain⟨_,_,_,z⟩:=z;exact z.elim
  ·refine Kn xn I.kIn he5 hc5 ?_
   exact YJ hN hr I t5 o1 o5 q
 |_,_,@HsOk.no _ xM MC ts b0 suite rest hds pM hpos hg hm hdb hs hr,σ',H',s,ea,T,C',a0,dd,D,I,t5,o1,o5,q=>by
  obtain⟨C,rfl,q⟩:=q
  have h3:H' ea=none:=o1.2.2.2.2.1
  have I':Inv (cxE X ea []) pins σ' H' s:=kh I λp hp=>nomatch hp
  obtain⟨oe5,vs5,he5,hc5,hd5,hf5,_⟩:=id t5
  refine wpAny_handleBy_cons (codeAny_handlers_test (x5 (X:=cxE X ea []) I' hg hm ?_ hdb)) (by intro z;cases z)
  rcases q with⟨xm,q⟩ | ⟨xn,q⟩
  ·refine J9 xm I.kIn he5 hc5 ?_
   refine codeAny_handlers_suite ?_
   refine Wm t5 λh6 t6 k6=>?_
   have I6:=uk I (k6.wide (S':=frs X.stack) λb z=>nomatch z) o1 λt z=>by cases z;exact o5
   obtain⟨oe,vs,he,hc,hd,hf,_⟩:=id t6
   have I7':Inv (cxE X ea [(ea,oe)]) pins σ' H' { s with heap:=h6 }:=kh I6 λp hp=>by
    cases hp with
    |head=>exact⟨he,h3,o1.2.1,o1.2.2.2.2.2,λv z=>by rw[hf] at z;cases z⟩
    |tail _ z=>cases z
   refine wpAny_mono (hs ea oe C dd hc hd ⟨vs,hf⟩ pins _ _ H' _ I7' (q ea h3)) (λf s8 z=>?_) λ_ _ z=>False.elim z
   cases f with
   |next=>
    obtain⟨σ8,H8,I8,q8⟩:=z
    exact⟨_,_,QI I.ok I8,q8⟩
   |ret v=>obtain⟨_,_,_,_,_,z⟩:=z;exact z.elim
   |brk=>obtain⟨_,_,_,z⟩:=z;exact z.elim
   |cont=>obtain⟨_,_,_,z⟩:=z;exact z.elim
  ·refine Kn xn I.kIn he5 hc5 ?_
   exact YJ hN hr I t5 o1 o5 q
end
section
variable {X:Cx}{t1:TS}{t2:(St->XK)->TS}{body:List Stmt}{h0:ExceptHandler}{hs:List ExceptHandler}{hds:List Hd}{pos:Pos}
theorem RS (h1:PSs X.nox body t1)(h2:∀pn (E:St->XK),PSs (cxT X pn (WX X pn E)) body (t2 E))(hN:X.N.Nodup)(hstk:X.stack=X.env::X.outer/\X.env.frame=some X.env.locals)(hh:HsOk X (h0::hs) hds) :
  PS X (.Try body (h0::hs) [] [] pos) (λD σ H=>t1 D σ H∨t2 (hWish X.K hds D) { nx:=λ_ _=>False,rt:=λ_ _=>False } σ H):=by
 intro pins s σ H D I h
 rcases h with h | h
 ·refine wpAny_Try_except (wpAny_mono (h1 pins s σ H D (I.wish _) h) (λf s1 q=>?_) λ_ _ z=>False.elim z)
  have q:=SP.unwish q
  cases f with
  |next=>exact wpAny_execs_nil q
  |ret v=>exact q
  |brk=>exact q
  |cont=>exact q
 refine wpAny_Try_except (wpAny_mono (h2 pins _ [] s σ H _ (WU I) h) (λf s1 q=>?_) λex s' hx=>?_)
 ·cases f with
  |next=>obtain⟨_,_,_,z⟩:=q;exact z.elim
  |ret v=>obtain⟨_,_,_,_,_,z⟩:=q;exact z.elim
  |brk=>obtain⟨_,_,_,z⟩:=q;exact z.elim
  |cont=>obtain⟨_,_,_,z⟩:=q;exact z.elim
 obtain⟨σ',ea,C',dd,a0,T,H',rfl,I2,ht,o1,o2,q⟩:=hx
 have hfr:X.A.frames=some (X.env::X.outer):=by rw[I.ok.frames,hstk.1]
 have hff:s'.heap.FunFrames X.base (X.env::X.outer):=by have:=I2.stack;rw[hstk.1] at this;exact this
 refine noteF hfr hff hstk.2 ht λh4 T5 t4 l4 k4=>?_
 rw[<-hstk.1] at k4
 have I4:=uk I2 k4 o1 o2
 have o5:Own X pins H' T5:=by
  rcases l4 with l | l
  ·exact ku I2 l (I2.hok.fresh l)
  ·exact o2 _ l
 refine Q2 (s:={ s' with heap:=h4 }) t4 λh5 _ t5 k5=>?_
 have t5:=t5 rfl
 have I5:=uk (s:={ s' with heap:=h4 }) I4 (k5.wide (S':=frs X.stack) λb z=>nomatch z) o1 λt z=>by cases z;exact o5
 exact YJ hN hh I5 t5 o1 o5 q
end
end L6
namespace Dv
open PySem PySem.Spec L2 L3 L4 L6
open PyProof.Rows hiding St
section
variable {X:Cx}{B:Bs}{ca:Str->Addr}{fd:Str}{E:St->XK}{pos:Pos}{tg iter elt:Expr}{ifs:List Expr}{scope:Scope}{own:List Str}{cap:List (Str×Nat)}{t:Tgt}{tc:EnvD->Option Bool}{α:Type}{post:Post α}{ge:EnvD->Option α}{gx:EnvD->Option Xv}{gi:EnvD->Option #[3]}
end
end Dv
namespace L6
open PySem PySem.Spec L2 L3 L4
open PyProof.Rows hiding St
def ExcAt (e C:Addr)(h:Heap):Prop:=∃ox od,InstAt h e ox C od
structure XI (K:PySem.W.Frag)(C:Addr):Prop where
 sub:subIn K (.ref C) (.type "BaseException")=some true
 cls:(clsIn K C).isSome=true
 ga:findIn K (.ref C) "__getattribute__" = some (some (.builtin "BaseException.__getattribute__"))
 gt:findIn K (.ref C) "__getattr__" = some none
 ca:findIn K (.ref C) "__class__" = some (some (.builtin "object.__class__"))
 cg:PySem.W.specialIn K (.builtin "object.__class__") "__get__" = some (some (.builtin "getset_descriptor.__get__"))
 ct:PySem.W.takesIn K (.builtin "object.__class__")=some true
 mo:PySem.W.mroIn K C (.type "object")=some true
section
variable {prog:Program}{w:World}{A:Around}{E:Value->Shared->Prop}{K:PySem.W.Frag}{x C:Addr}
theorem zf4 {ox:Obj}{od:Option Obj}{tk:Tok}{R:Result->Shared->Prop}{s:Shared}(xi:XI K C)(X:K.In s.heap)(I:InstAt s.heap x ox C od)(hq:R (.ok (.ret (.ref C))) s) :
  wpAny #[19] A.in1 (Builtin.«object.__getattribute__» ⟨[.ref x,.str "__class__" tk],[]⟩)
   (λfin s'=>match fin with | .done f=>R (.ok f) s' | .again c'=>c'.quiet=true/\codeAny #[19] A c' R s') (λe s'=>R (.error e) s') s:=by
 have hf:PySem.W.findObj K C od "__class__" = some (.bind (.builtin "getset_descriptor.__get__") (.builtin "object.__class__")):=by
  obtain⟨cd,hc⟩:=Option.isSome_iff_exists.mp xi.cls
  unfold PySem.W.findObj
  rw[hc,Option.bind_some,xi.ca,Option.bind_some]
  simp[xi.cg,xi.ct]
 obtain⟨h,g,d,t,os⟩:=s
 have L0:=I.type (M:=model prog w)
 have L1:=PySem.W.looks_find (M:=model prog w) X I hf
 unfold Builtin.«object.__getattribute__»
 refine wpAny_bind (wpAny_pure (wpAny_bind (wpAny_pure (wpAny_bind (L0.at (wpAny_bind (L1.at ?_)))))))
 show wpAny _ _ (holding [_] (call _ [_,.ref x,.ref C]) >>= ret) _ _ _
 exact wpAny_bind (wpAny_holding (wpAny_call (PySem.W.class_get (s:=⟨h,g,d,t,os⟩) X I xi.mo (wpAny_pure hq))))
theorem zci {ox:Obj}{od:Option Obj}{tk:Tok}{R:Result->Shared->Prop}{s:Shared}(xi:XI K C)(X:K.In s.heap)(I:InstAt s.heap x ox C od)(hq:R (.ok (.ret (.ref C))) s) :
  codeAny #[19] A (.call (.builtin "BaseException.__getattribute__") ⟨[.ref x,.str "__class__" tk],[]⟩) R s:=by
 refine codeAny_call_builtin PySem.F.attrBase_ValueError.ga.plain PySem.F.entry_bexc_ga ?_
 refine @PySem.W.check_slot #[19] _ _ s "BaseException.__getattribute__" "BaseException" "__getattribute__" (.ref x) [.str "__class__" tk] [] _ #[13] #[13] (I.type.andThen (PySem.W.looks_subIn X xi.sub)) (PySem.F.args_bexc_ga (.ref x) (.str "__class__" tk)) ?_
 exact zf4 xi X I hq
theorem zdd {ox:Obj}{od:Option Obj}{Q:Option Value->Shared->Prop}{s:Shared}(xi:XI K C)(X:K.In s.heap)(I:InstAt s.heap x ox C od)(hq:Q (some (.ref C)) { s with toks:=s.toks+1 }) :
  wpAny #[19] A (getAttr? (.ref x) "__class__") Q E s:=by
 obtain⟨h,g,d,t,os⟩:=s
 have L0:=I.type (M:=model prog w)
 have L1:=looks_findIn (M:=model prog w) X xi.ga
 have L2:=looks_findIn (M:=model prog w) X xi.gt
 have f3:=PySem.F.attrBase_ValueError.ga.bind (.ref x)
 have hv2:handedOut (Value.ref C)=pure (Value.ref C):=rfl
 have hx2:(Value.builtin "BaseException.__getattribute__" == Value.builtin "object.__getattribute__")=false:=by decide +kernel
 have hx1:(onTheHeap (Value.ref C)&&Value.builtin "BaseException.__getattribute__" == Value.builtin "object.__getattribute__")=false:=by rw[hx2];rfl
 unfold getAttr? getAttrBy? getAttrBy
 repeat (any_goals (first | assumption | with_reducible refine L0.at ?_ | with_reducible refine L1.at ?_ | with_reducible refine L2.at ?_ | rw[hv2] | wp_step))
 refine zci (s:=⟨h,g,d,t+1,os⟩) xi X I ?_
 repeat (any_goals (first | assumption | rw[hv2] | wp_step))
theorem zgg (xi:XI K C):PySem.W.KitX K (.ref x) (.ref C) (ExcAt x C) where
 ty:=λ_ _ _ ⟨_,_,I⟩=>I.type
 it:=λ_ _ X _=>by
  obtain⟨cd,hc⟩:=Option.isSome_iff_exists.mp xi.cls
  unfold clsIn at hc
  split at hc
  ·rename_i ho
   intro A' Q' E' s' k q
   unfold isType loadHead
   exact wpAny_bind (wpAny_loadPart (k _ _ (X _ _ ho)) (wpAny_pure q))
  ·cases hc
 ne:=λh tp dd its n sl X htp=>by
  obtain⟨cd,hc⟩:=Option.isSome_iff_exists.mp xi.cls
  refine Bool.eq_false_iff.mpr λq=>?_
  cases (Value.ref.inj (beq_iff_eq.mp q):C=tp)
  unfold clsIn at hc
  split at hc
  ·rename_i ho
   cases (X _ _ ho).symm.trans htp
  ·cases hc
 ca:=λX ⟨_,_,I⟩ k=>zdd xi X I k
theorem YX {s:Shared}{Q:Value->Shared->Prop}{c:Value}{b:Bool}(xi:XI K C)(X:K.In s.heap)(I:ExcAt x C s.heap)(z:kitOne K (.ref C) c=some b)(h:∀tk,Q (.bool b) { s with toks:=tk }) :
  wpAny #[19] A (call (.builtin "isinstance") [.ref x,c]) Q E s :=
 PySem.W.kia_one (zgg xi) X I z (λz=>nomatch z) h
end
def rIsB (ea:Addr)(dd:Option Addr)(fd:Str)(M2:Addr)(b:Bool):List V->Hp->VK->Prop:=λxs H Q=>xs=[.ref ea,.ref M2]/\(dd=none∨∃dx v,dd=some dx/\H dx=some (.xd [(fd,v)]))/\Q (.bl b) H
theorem zhh {X:Cx}{C ea M2:Addr}{oe:Obj}{fd:Str}{dd:Option Addr}{b:Bool}(xi:XI X.K C)(hpn:(ea,oe)∈X.pn)(hc:oe.cls=.ref C)(hd:oe.dict=dd)(hf:∃fs,oe.data=.fields fs)(z:kitOne X.K (.ref C) (.ref M2)=some b):CallR X (.builtin "isinstance") (rIsB ea dd fd M2 b):=by
 intro pins s σ H xs us Q I r h
 obtain⟨rfl,hdd,q⟩:=h
 cases r with
 | @cons _ u1 _ _ r1 r2=>
 cases r2 with
 | @cons _ u2 _ _ r3 r4=>
 cases r4
 obtain rfl:u1=Value.ref ea:=r1
 obtain rfl:u2=Value.ref M2:=r3
 obtain⟨fs,hf⟩:=hf
 have he:=(I.pin (ea,oe) (List.mem_append_left _ hpn)).1
 have hn:PySem.W.notCls oe=true:=by unfold PySem.W.notCls;rw[hf]
 have IA:ExcAt ea C s.heap:=by
  rcases hdd with e0 | ⟨dx,v,e1,e2⟩
  ·exact⟨oe,none,he,hc,hn,by rw[hd,e0];trivial⟩
  ·obtain⟨mA,hm,_⟩:=I.hok dx _ e2
   obtain⟨o,_,_,ho,_⟩:=hm.ns
   exact⟨oe,some o,he,hc,hn,by rw[hd,e1];exact ho⟩
 exact YX xi I.kIn IA z λtk=>⟨.bl b,H,I.tok tk,rfl,q⟩
end L6
namespace Dv
open PySem PySem.Spec L2 L3 L4 L6
open PyProof.Rows hiding St
theorem zb1 {X:Cx}{C M2:Addr}{fd n x:Str}{ie:Nat}{p2 p3 pI pC:Pos}{b:Bool}(xi:XI X.K C)(z:kitOne X.K (.ref C) (.ref M2)=some b)(hgI:Gl X "isinstance") (hmI:X.mg "isinstance" = none) (hg:Gl X x) (hm:X.mg x=some (.ref M2)) (hi:X.N[ie]?=some n) (hl:X.env.scope.names.lookup n=some .local)
  (d3:(n==("__debug__" : Str))=false:=by decide +kernel) (d4:(n==("__classdict__" : Str))=false:=by decide +kernel) (hdb:#[20]=false:=by decide +kernel)
  (he:starEach [.Name n p2,.Name x p3] X.env=(false,eval (.Name n p2) X.env)::starEach [.Name x p3] X.env:=by rfl) (he2:starEach [.Name x p3] X.env=(false,eval (.Name x p3) X.env)::starEach [] X.env:=by rfl) (hpl:(backTo pC (starEach [.Name x p3] X.env)).any (·.1)=false:=by rfl) :
  ItOk X C ie fd (.Call (.Name "isinstance" pI) [.Name n p2,.Name x p3] [] pC) (.isx b):=λea oe dd hc hd hf=>
 zt (u4 (X:=cxE X ea [(ea,oe)]) (zhh (fd:=fd) (b:=b) xi (List.mem_append_left _ (.head _)) hc hd hf z) hgI hmI #[13] (zW (YA hi (.inl hl) d3 d4) (zW (Vp hg hm (v:=.ref M2) rfl hdb) yr he2) he) #[7] #[7] he hpl) λσ H Q ⟨e1,ed,q⟩=>⟨_,e1,rfl,ed,q⟩
section
variable {X:Cx}{elts:List Expr}{tk:Nat}{tpos p pos:Pos}{a:Expr}{B:Bs}{hb:Hp->Hp}{gi:EnvD->Option #[3]}
end
structure Exc0 (K:PySem.W.Frag)(mg:Str->Option Value)(CT HE:Addr)(xT xH:Str)(oth:List (Str×Bool)):Prop where
 xc:XC0 K CT
 xi:XI K CT
 xm:XM K CT CT
 xmH:XM K CT HE
 z:kitOne K (.ref CT) (.ref HE)=some true
 zT:kitOne K (.ref CT) (.ref CT)=some true
 mT:mg xT=some (.ref CT)
 mH:mg xH=some (.ref HE)
 oth:∀q∈oth,∃M,mg q.1=some (.ref M)/\kitOne K (.ref CT) (.ref M)=some q.2
theorem ZY {K:PySem.W.Frag}{C M:Addr}(h0:subIn K (.ref C) (.ref C)=some true)(h1:PySem.W.isClsIn K M=true)(h2:PySem.W.typeIn K (.ref M)=some (.type "type")) (h3:subIn K (.ref C) (.ref M)=some false):kitOne K (.ref C) (.ref M)=some false:=by
 unfold kitOne
 split
 ·rename_i q
  cases (Value.ref.inj (beq_iff_eq.mp q):C=M)
  rw[h0] at h3
  cases h3
 ·show (if ((clsIn K M).isSome&&PySem.W.typeIn K (.ref M)==some (.type "type"))=true then subIn K (.ref C) (.ref M) else none)=some false
  have h1:(clsIn K M).isSome=true:=h1
  rw[h1,h2,if_pos #[7]]
  exact h3
section
variable {X:Cx}{B:Bs}{ca:Str->Addr}{fd:Str}{E:St->XK}{pos:Pos}{tg iter elt:Expr}{ifs:List Expr}{scope:Scope}{own:List Str}{cap:List (Str×Nat)}{t:Tgt}{tc:EnvD->Option Bool}{ge:EnvD->Option D}{gx:EnvD->Option Xv}{gi:EnvD->Option #[3]}
end
end Dv
namespace Dv
open PySem PySem.Spec L2 L3 L4
open PyProof.Rows hiding St
section
variable {X:Cx}{B:Bs}{a e o:Expr}{es:List Expr}{pos p apos cpos:Pos}{g go:EnvD->Option D}{gs:EnvD->Option #[3]}
end
section
variable {ρ:EnvD}{g go:EnvD->Option D}{gs:EnvD->Option #[3]}{gj:EnvD->Option Str}
end
def compT (t:Tgt)(tc:EnvD->Option Bool)(ge:EnvD->Option OT)(ρ0:EnvD):List D->Option (List OT)
 | []=>some []
 |d::ds=>(asgD t d ρ0).bind λρ1=>(tc ρ1).bind λb=>if b then (ge ρ1).bind λy=>(compT t tc ge ρ0 ds).map (y::·) else compT t tc ge ρ0 ds
@[simp]theorem zis {t:Tgt}{tc:EnvD->Option Bool}{ge:EnvD->Option OT}{ρ:EnvD}:compT t tc ge ρ []=some []:=rfl
@[simp]theorem Gg {t:Tgt}{tc:EnvD->Option Bool}{ge:EnvD->Option OT}{ρ:EnvD}{d:D}{ds:List D}:compT t tc ge ρ (d::ds)=(asgD t d ρ).bind λρ1=>(tc ρ1).bind λb=>if b then (ge ρ1).bind λy=>(compT t tc ge ρ ds).map (y::·) else compT t tc ge ρ ds:=rfl
def gCompT (own:List Str)(cap:List (Str×Nat))(t:Tgt)(tc:EnvD->Option Bool)(ge:EnvD->Option OT)(gi:EnvD->Option #[3]):EnvD->Option OT:=λρ=>
 (gi ρ).bind λds=>if ds.length<=TOP then (compT t tc ge #[21] ds).map OT.lst else none
section
variable {X:Cx}{B:Bs}{tg iter:Expr}{pos:Pos}{gi:EnvD->Option #[3]}
theorem zcm {elt:Expr}{ifs:List Expr}{scope:Scope}{own:List Str}{cap:List (Str×Nat)}{t:Tgt}{tc:EnvD->Option Bool}{ge:EnvD->Option OT}(hc:X.calm=true)(S:CompScope X scope own cap)(hi:DI X B (λH=>H) tg iter gi)(ht:∀i∈t.slots,i < own.length)
  (hin:∀(B':Bs) C s₀ H₀ fp pn,PG #[27] tg (tgT X.kw t)/\DIfs #[27] B' ifs tc/\DTr #[27] B' elt ge)
  (hs:∀x,foldedSetIterable iter X.env x=pure x:=by intro _;rfl) :
  DTr X B #[28] (gCompT own cap t tc ge gi):=by
 refine zt (K7 (tc:=λσ H Q=>∃B',lT X.kw B' tc σ H Q) (te:=λσ H Q=>∃B',lG X.kw B' (pT X.kw) ge σ H Q) hc S hi (λC s₀ H₀ fp pn=>⟨(hin ⟨H₀,H₀⟩ C s₀ H₀ fp pn).1,λpins s σ H Q I ⟨B',q⟩=>(hin B' C s₀ H₀ fp pn).2.1 pins s σ H Q I q,λpins s σ H Q I ⟨B',q⟩=>(hin B' C s₀ H₀ fp pn).2.2 pins s σ H Q I q⟩) hs) ?_
 intro σ H Q ⟨F,ρ,outT,r,hg,k⟩
 unfold gCompT at hg
 cases q:gi ρ with
 |none=>rw[q] at hg;cases hg
 |some ds=>
  rw[q] at hg
  have hg:(if ds.length<=TOP then (compT t tc ge #[21] ds).map OT.lst else none)=some outT:=hg
  split at hg
  ·rename_i htop
   cases qo:compT t tc ge #[21] ds with
   |none=>rw[qo] at hg;cases hg
   |some out=>
   rw[qo] at hg
   cases hg
   replace hg:=qo
   refine⟨F,ρ,ds,r,q,λJ F1 H1 e1 jok=>?_⟩
   refine⟨λi m ys H2=>m=ds.length - i/\i<=ds.length/\∃F2 o1 o2,Ext F1 H1 F2 H2/\(RepOs X.kw F2 H2 o1 ys/\(feetOs H2 o1 ys).Nodup/\∀a∈feetOs H2 o1 ys,H a=none/\F2 a=none)/\o1.length<=i/\compT t tc ge #[21] (ds.drop i)=some o2/\out=o1++o2,
    ⟨ds.length,rfl,Nat.zero_le _,F1,[],out,.refl e1.fh,⟨rfl,.nil,λa ha=>nomatch ha⟩,Nat.le_refl _,hg,rfl⟩,?_⟩
   rintro i m ys H2 ⟨rfl,hi,F2,o1,o2,e2,⟨ry,nd,fr⟩,hl1,h2,rfl⟩
   refine⟨yk (by rw[<-RepOs.length ry];omega),?_⟩
   obtain⟨j1,j2⟩:=jok F2 H2 e2.ff e2.fh e2.hh i
   by_cases hlt:i < ds.length
   ·obtain⟨go,yl⟩:=j1 hlt
    refine .inr ⟨go,λys' H'=>∃F3 p1 p2,Ext F1 H1 F3 H'/\(RepOs X.kw F3 H' p1 ys'/\(feetOs H' p1 ys').Nodup/\∀a∈feetOs H' p1 ys',H a=none/\F3 a=none)/\p1.length<=i+1/\compT t tc ge #[21] (ds.drop (i+1))=some p2/\o1++o2=p1++p2,λys' H' ⟨F3,p1,p2,e3,r3,l3,h3,eo⟩=>⟨ds.length - (i+1),by omega,rfl,hlt,F3,p1,p2,e3,r3,l3,h3,eo⟩,λx H3 hy σ1 hσ=>?_⟩
    obtain⟨F3,d,e3,hd,rd⟩:=yl x H3 hy
    have hdd:ds.drop i=d::ds.drop (i+1):=by
     rw[List.drop_eq_getElem_cons hlt]
     congr 1
     rw[List.getElem?_eq_getElem hlt] at hd
     exact Option.some.inj hd
    rw[hdd] at h2
    simp only[compT] at h2
    cases q1:asgD t d #[21] with
    |none=>rw[q1] at h2;cases h2
    |some ρ1=>
     rw[q1] at h2
     have e13:=e2.trans e3
     refine jU (YQ (own:=own) (cap:=cap) r e1 e13 hσ) rd q1 λσ' r4 so=>⟨?_,?_⟩
     ·obtain⟨σ1',l1,e4⟩:=so.pre (σ1:=σ1) rfl (λj hj=>by rw[hσ];exact ht j hj)
      exact⟨σ1',by rw[l1,hσ],e4⟩
     ·have h2:((tc ρ1).bind λb=>if b then (ge ρ1).bind λy=>(compT t tc ge #[21] (ds.drop (i+1))).map (y::·) else compT t tc ge #[21] (ds.drop (i+1)))=some o2:=h2
      cases q2:tc ρ1 with
      |none=>rw[q2] at h2;cases h2
      |some bb=>
       rw[q2] at h2
       refine⟨⟨F1,H1⟩,F3,ρ1,bb,r4,q2,λF5 H5 e5=>?_⟩
       cases bb with
       |false=>
        have eo:=e3.trans e5
        obtain⟨u1,u2⟩:=RepOs.ext eo.ff eo.hh ry
        exact iteF ⟨F5,o1,o2,e13.trans e5,⟨u1,by rw[u2];exact nd,λa ha=>by rw[u2] at ha;exact⟨(fr a ha).1,yM eo (fr a ha).2 (RepOs.feet ry ha)⟩⟩,by omega,h2,rfl⟩
       |true=>
        have h2:((ge ρ1).bind λy=>(compT t tc ge #[21] (ds.drop (i+1))).map (y::·))=some o2:=h2
        cases q3:ge ρ1 with
        |none=>rw[q3] at h2;cases h2
        |some y=>
         rw[q3] at h2
         have h2:(compT t tc ge #[21] (ds.drop (i+1))).map (y::·)=some o2:=h2
         cases q4:compT t tc ge #[21] (ds.drop (i+1)) with
         |none=>rw[q4] at h2;cases h2
         |some p2=>
          rw[q4] at h2
          cases h2
          refine iteT ⟨⟨F1,H1⟩,F5,ρ1,y,r4.ext e5,q3,λv F6 H6 e6 p6=>?_⟩
          have eo:=e3.trans (e5.trans e6)
          obtain⟨u1,u2⟩:=RepOs.ext eo.ff eo.hh ry
          obtain⟨w1,w2,w3⟩:=p6
          have h5:∀a,H5 a=none->H a=none:=λa z=>e1.hh.free ((e13.trans e5).hh.free z)
          refine⟨F6,o1++[y],p2,e13.trans (e5.trans e6),⟨RepOs.snoc w1 u1,?_,?_⟩,by simp;omega,rfl,by simp⟩
          ·rw[uZ (RepOs.length u1),u2,List.nodup_append]
           refine⟨nd,w2,λa ha b hb hab=>?_⟩
           subst hab
           exact RepOs.feet ry ha ((e3.trans e5).hh.free (w3 a hb).1)
          ·rw[uZ (RepOs.length u1),u2]
           intro a ha
           rcases List.mem_append.mp ha with ha | ha
           ·exact⟨(fr a ha).1,yM eo (fr a ha).2 (RepOs.feet ry ha)⟩
           ·exact⟨h5 a (w3 a ha).1,(w3 a ha).2⟩
   ·have hi':i=ds.length:=by omega
    have hdd:ds.drop i=[]:=by rw[hi',List.drop_length]
    rw[hdd] at h2
    cases h2
    refine .inl ⟨j2 hi',λD hD=>?_⟩
    have e:=e1.trans e2
    obtain⟨x1,x2⟩:=RepOs.ext (Same.refl F2) (ye (o:=.lst ys) hD) ry
    have hfD:feetO (upd H2 D (.lst ys)) (.lst o1) (.ref D)=D::feetOs H2 o1 ys:=by
     simp only[feetO,y0 (zy (H:=H2) (a:=D) (o:=.lst ys)),x2]
    rw[List.append_nil] at *
    refine k _ F2 _ (e.trans (.new e.fh hD)) ⟨⟨D,ys,rfl,zy,x1⟩,?_,?_⟩
    ·rw[hfD]
     exact List.nodup_cons.mpr ⟨λz=>RepOs.feet ry z hD,nd⟩
    ·rw[hfD]
     intro b hb
     rcases List.mem_cons.mp hb with rfl | hb
     ·exact⟨e.hh.free hD,e.fh.free hD⟩
     ·exact fr b hb
  ·cases hg
end
section
variable {K:KW}{B:Bs}{F H:Hp}{σ:St}{ρ:EnvD}
end
section
variable {X:Cx}{B:Bs}{tg e ck c re:Expr}{es:List Expr}{x y nm:Str}{pos p2 p3 p4 p5 ip rp apos cpos:Pos}{id:String}{r:V->List V->Hp->VK->Prop}{f:List D->List D->Option #[3]}{gs:EnvD->Option #[3]}{dd:List D}{gt:EnvD->Option Bool}{ge:EnvD->Option D}
end
open L6
section
variable {X:Cx}{B:Bs}{e a b o:Expr}{es:List Expr}{pos p cpos:Pos}{gts:EnvD->Option (List OT)}{gp:EnvD->Option (List Nat)}{ga gb:EnvD->Option D}
end
section
variable {X:Cx}{B:Bs}{ca:Str->Addr}{fd x:Str}{id:String}{E:St->XK}{pos p:Pos}{e:Expr}{es:List Expr}{k n:Nat}{g:EnvD->Option Xv}{gd:EnvD->Option D}{gx:EnvD->Option En}{m:List En->Option En}
end
theorem Zh {α:Type}{P:α->Prop}:∀q∈([]:List α),P q:=λ_ h=>nomatch h
theorem JZ {α:Type}{P:α->Prop}{a:α}{l:List α}(h:P a)(r:∀q∈l,P q):∀q∈a::l,P q:=List.forall_mem_cons.mpr ⟨h,r⟩
theorem Pd.ext {K:KW}{F H F' H':Hp}{fd:Str}{dd:Option Addr}{q:Option D}(e:Ext F H F' H')(h:Pd K F H fd dd q):Pd K F' H' fd dd q:=by
 cases q with
 |none=>exact h
 |some d=>obtain⟨dx,v,e1,e2,e3⟩:=h;exact⟨dx,v,e1,e.hh _ _ e2,e3.mono e.ff⟩
def hasE (ie:Option Nat)(ea:Addr)(σ:St):Prop:=match ie with
 |some k=>σ[k]?=some (some (.ref ea))
 |none=>True
abbrev Jt:=Option D->Option D
def jtsD (q:Option D):List Jt->Option #[3]
 | []=>some []
 |f::r=>(f q).bind λd=>(jtsD q r).map (d::·)
def lCJ (K:KW)(ie:Option Nat)(ea:Addr)(dd:Option Addr)(fd:Str)(f:Jt):TE:=λσ H Q=>hasE ie ea σ/\∃F q d,Same F H/\Pd K F H fd dd q/\f q=some d/\∀v F' H',Ext F H F' H'->Rp K F' d v->Q v H'
def lCJs (K:KW)(ie:Option Nat)(ea:Addr)(dd:Option Addr)(fd:Str)(fs:List Jt):TA:=λσ H Q=>hasE ie ea σ/\∃F q ds,Same F H/\Pd K F H fd dd q/\jtsD q fs=some ds/\∀vs F' H',Ext F H F' H'->Rps K F' ds vs->Q vs H'
def JtOk (X:Cx)(C:Addr)(ie:Option Nat)(fd:Str)(e:Expr)(f:Jt):Prop:=∀ea oe dd,oe.cls=.ref C->oe.dict=dd->(∃fs,oe.data=.fields fs)->PE (cxE X ea [(ea,oe)]) e (lCJ X.kw ie ea dd fd f)
def JtsOk (X:Cx)(C:Addr)(ie:Option Nat)(fd:Str)(es:List Expr)(fs:List Jt):Prop:=∀ea oe dd,oe.cls=.ref C->oe.dict=dd->(∃fs,oe.data=.fields fs)->PA (cxE X ea [(ea,oe)]) es (lCJs X.kw ie ea dd fd fs)
def jCon (x:Str):Jt:=λ_=>some (.str x)
section
variable {X:Cx}{B:Bs}{C HE fI M2 MC:Addr}{ca:Str->Addr}{fd n x y:Str}{ie:Option Nat}{i k:Nat}{pos p p2 p3 pI pC pB lpos:Pos}{e:Expr}{es:List Expr}{f:Jt}{fs:List Jt}{b:Bool}
theorem Uu {j1 j2}{x1 x2:Str}(h:ItOk X C k fd e (.isx b))(hg:Gl X "int") (hm:X.mg "int" = none)
  (he:starEach [e] X.env=(false,eval e X.env)::starEach [] X.env:=by rfl) (hpl:(backTo pC (starEach [] X.env)).any (·.1)=false:=by rfl)
  (hs:ug (.Call (.Name "int" pI) [e] [] pC)) :
  JtOk X C (some k) fd (.Subscript (.List [.Constant (.str x1) j1 p,.Constant (.str x2) j2 p2] lpos) (.Call (.Name "int" pI) [e] [] pC) pos) (jCon (if b then x2 else x1)):=λea oe dd h1 h2 h3=>
 zt (V0 (X:=cxE X ea [(ea,oe)]) Jq (Wv (zW qQ (zW qQ yr rfl) rfl)) (qX (X:=cxE X ea [(ea,oe)]) WQ hg hm #[13] (zW (h ea oe dd h1 h2 h3) yr he) #[7] #[7] he hpl) hs) λσ H Q ⟨hh,F,q,d,s,pd,hf,kk⟩=>by
  cases hf
  refine⟨yk (show (2:Nat)<=TOP by decide),λa ha=>?_⟩
  have ex:Ext F H (upd F a (.lst [.str x1,.str x2])) (upd H a (.lst [.str x1,.str x2])):=Ext.newF s ha
  have hdd:dd=none∨∃dx v,dd=some dx/\upd H a (.lst [.str x1,.str x2]) dx=some (.xd [(fd,v)]):=by
   have pd':=pd.ext ex
   cases q with
   |none=>exact .inl pd'
   |some d=>obtain⟨dx,v,e1,e2,_⟩:=pd';exact .inr ⟨dx,v,e1,e2⟩
  refine⟨hh,hdd,.inr ⟨b,rfl,?_⟩⟩
  refine QY (upd F a (.lst [.str x1,.str x2])) _ _ _ (.lst [.str x1,.str x2]) (.int (if b then 1 else 0)) (.str (if b then x2 else x1)) Q ex.fh (.inl ⟨a,_,rfl,zy,_,_,rfl,rfl,_,_,rfl,rfl,rfl⟩) (.inl rfl) (by cases b<;>rfl) λv F' H' e2 p=>kk v F' H' (ex.trans e2) p
end
structure Cl where
 ie:Option Nat
 its:List (Str×List Jt)
inductive CsOk (X:Cx) (ca:Str->Addr) (fd:Str) (i:Nat):List ExceptHandler->List Cl->Prop
 |nil:CsOk X ca fd i [] []
 |as {xM n fx:Str} {MC:Addr} {ie:Nat} {its:List (Str×List Jt)} {es:List Expr} {rest:List ExceptHandler} {cls:List Cl} {pM hpos pF lpos epos:Pos} (hg:Gl X xM) (hm:X.mg xM=some (.ref MC)) (hdb:(xM==("__debug__" : Str))=false)
   (hie:X.N[ie]?=some n) (hl:X.env.scope.names.lookup n=some .local) (hit:∀q∈its,JtsOk X (ca q.1) (some ie) fd es q.2) (hx:∀q∈its,XM X.K (ca q.1) MC) (hn:∀c∈cls,∀q∈c.its,XN X.K (ca q.1) MC)
   (hi:X.N[i]?=some fx) (hiL:Loc X.env.scope fx) (hif:X.fn fx=true∨X.env.scope.names.lookup fx=some .local) (hs:swapsWith (.List es lpos) (some (.Name fx pF)) epos.line X.env=pure false) (hr:CsOk X ca fd i rest cls) :
   CsOk X ca fd i (.ExceptHandler (some (.Name xM pM)) (some n) [.Assign [.Name fx pF] (.List es lpos) epos] hpos::rest) (⟨some ie,its⟩::cls)
 |no {xM fx:Str} {MC:Addr} {its:List (Str×List Jt)} {es:List Expr} {rest:List ExceptHandler} {cls:List Cl} {pM hpos pF lpos epos:Pos} (hg:Gl X xM) (hm:X.mg xM=some (.ref MC)) (hdb:(xM==("__debug__" : Str))=false)
   (hit:∀q∈its,JtsOk X (ca q.1) none fd es q.2) (hx:∀q∈its,XM X.K (ca q.1) MC) (hn:∀c∈cls,∀q∈c.its,XN X.K (ca q.1) MC)
   (hi:X.N[i]?=some fx) (hiL:Loc X.env.scope fx) (hif:X.fn fx=true∨X.env.scope.names.lookup fx=some .local) (hs:swapsWith (.List es lpos) (some (.Name fx pF)) epos.line X.env=pure false) (hr:CsOk X ca fd i rest cls) :
   CsOk X ca fd i (.ExceptHandler (some (.Name xM pM)) none [.Assign [.Name fx pF] (.List es lpos) epos] hpos::rest) (⟨none,its⟩::cls)
theorem jf {α:Type}{nm:Str}{v:α}:∀ {l:List (Str×α)},l.lookup nm=some v->(nm,v)∈l
 | [],h=>by cases h
 | (a,b)::r,h=>by
  rw[List.lookup_cons] at h
  split at h
  ·rename_i q
   cases h
   have:nm=a:=eq_of_beq q
   subst this
   exact .head _
  ·exact .tail _ (jf h)
section
variable {X:Cx}{B:Bs}{ca:Str->Addr}{fd:Str}{i:Nat}
variable {gs:SD}{gx:EnvD->Option (EnvD×Xv)}{body:List Stmt}{h0:ExceptHandler}{hs:List ExceptHandler}{cls:List Cl}{pos:Pos}
end
end Dv
namespace L6
open PySem PySem.Spec L2 L3 L4
open PyProof.Rows hiding St
def calmA (A:Around):Around:={ A with handled:=none }
def PinOk (outer:List Env)(s:Shared)(H:Hp)(pn:List (Addr×Obj)):Prop:=∀p∈pn,s.heap.get? p.1=some p.2/\H p.1=none/\p.1∉frs outer/\∀v,p.2.data≠.cell v
abbrev SpE:=List (Addr×Obj)->List V->Hp->VK->Prop
structure FnE (P:Program)(w:World)(K:PySem.W.Frag)(mg:Str->Option Value)(base:Heap)(k:Nat)(f:Addr)(fd:FuncData)(ps:List Str)(sp:SpE):Prop where
 len:∀pn vs H Q,sp pn vs H Q->vs.length=ps.length
 run:∀(A:Around) (outer:List Env) (s:Shared) (H:Hp) (args:Args) (us:List Value) (vs:List V) (Q:VK) (pn:List (Addr×Obj)),Room k (calmA A)->Env0 P w K mg base A outer s H->BindsTo s fd args (ps.zip us)->Vals vs us->PinOk outer s H pn->sp pn vs H Q ->
  codeAny (model P w) A (.call (.ref f) args) (CR CX0 outer P w H s Q (λ_ _ _=>False)) s
section
variable {P:Program}{w:World}{K:PySem.W.Frag}{mg:Str->Option Value}{base:Heap}{N ps:List Str}{qual name:Str}{scope:Scope}{f:Addr}{cdv:Value}{A:Around}{outer:List Env}{s s1:Shared}{H:Hp}{us:List Value}{vs:List V}{E:XK}{pn:List (Addr×Obj)}
end
section
variable {X:Cx}{k:Nat}{f:Addr}{fd:FuncData}{ps:List Str}{sp:SpE}{x:Str}{p pos:Pos}{e:Expr}{es:List Expr}{t:TA}{ea:Addr}{oe:Obj}
end
def rIsT (ea:Addr)(dd:Option Addr)(fd:Str)(T:String)(b:Bool):List V->Hp->VK->Prop:=λxs H Q=>xs=[.ref ea,.ty T]/\(dd=none∨∃dx v,dd=some dx/\H dx=some (.xd [(fd,v)]))/\Q (.bl b) H
theorem US {X:Cx}{C ea:Addr}{T:String}{oe:Obj}{fd:Str}{dd:Option Addr}{b:Bool}(xi:XI X.K C)(hpn:(ea,oe)∈X.pn)(hc:oe.cls=.ref C)(hd:oe.dict=dd)(hf:∃fs,oe.data=.fields fs)(z:kitOne X.K (.ref C) (.type T)=some b):CallR X (.builtin "isinstance") (rIsT ea dd fd T b):=by
 intro pins s σ H xs us Q I r h
 obtain⟨rfl,hdd,q⟩:=h
 cases r with
 | @cons _ u1 _ _ r1 r2=>
 cases r2 with
 | @cons _ u2 _ _ r3 r4=>
 cases r4
 obtain rfl:u1=Value.ref ea:=r1
 obtain rfl:u2=Value.type T:=r3
 obtain⟨fs,hf⟩:=hf
 have he:=(I.pin (ea,oe) (List.mem_append_left _ hpn)).1
 have hn:PySem.W.notCls oe=true:=by unfold PySem.W.notCls;rw[hf]
 have IA:ExcAt ea C s.heap:=by
  rcases hdd with e0 | ⟨dx,v,e1,e2⟩
  ·exact⟨oe,none,he,hc,hn,by rw[hd,e0];trivial⟩
  ·obtain⟨mA,hm,_⟩:=I.hok dx _ e2
   obtain⟨o,_,_,ho,_⟩:=hm.ns
   exact⟨oe,some o,he,hc,hn,by rw[hd,e1];exact ho⟩
 exact YX xi I.kIn IA z λtk=>⟨.bl b,H,I.tok tk,rfl,q⟩
end L6
namespace Dv
open PySem PySem.Spec L2 L3 L4 L6
open PyProof.Rows hiding St
def kitF (K:PySem.W.Frag)(C:Addr)(isx:Nat->Bool):Nat->List Value->Prop
 |_,[]=>True
 |j,v::vs=>kitOne K (.ref C) v=some (isx j)/\kitF K C isx (j+1) vs
structure ExAt (K:PySem.W.Frag)(fd:Str)(ea C:Addr)(oe:Obj)(H:Hp):Prop where
 xi:XI K C
 cls:oe.cls=.ref C
 flds:∃fs,oe.data=.fields fs
 dic:oe.dict=none∨∃dx v,oe.dict=some dx/\H dx=some (.xd [(fd,v)])
def eSp (K:KW)(fd:Str)(tab:List Value)(m:Addr->(Nat->Bool)->List En->Option En):SpE:=λpn vs H Q=>
 ∃ea oe C isx F d,pn=[(ea,oe)]/\vs=[.ref ea]/\ExAt K fd ea C oe H/\kitF K C isx 0 tab/\Same F H/\m ea isx [.exn ea]=some (.val d)/\∀v F' H',Ext F H F' H'->Rp K F' d v->Q v H'
structure Ex1 (P:Program)(w:World)(K:PySem.W.Frag)(mg:Str->Option Value)(base:Heap)(fd:Str)(tab:List Value)(x:Str)(k:Nat)(m:Addr->(Nat->Bool)->List En->Option En):Prop where
 ex:∃f f0 ps,FnE P w K mg base k f f0 ps (eSp ⟨K,w⟩ fd tab m)/\mg x=some (.ref f)/\keepIn K (.ref f)=true/\Binds K f0 ps []
section
variable {P:Program}{w:World}{K:PySem.W.Frag}{mg:Str->Option Value}{base:Heap}
end
section
variable {X:Cx}{B:Bs}{C ea M2:Addr}{oe:Obj}{fd n x:Str}{i:Nat}{p2 p3 pI pC:Pos}{b:Bool}{T:String}
end
section
variable {X:Cx}{C:Addr}{fd n x:Str}{k kk:Nat}{p p2 pos:Pos}{tab:List Value}{m:Addr->(Nat->Bool)->List En->Option En}{isx:Nat->Bool}
end
section
variable {X:Cx}{B:Bs}{ca:Str->Addr}{fd:Str}{E:St->XK}{pos cpos:Pos}{a b c:Expr}{sa sb rest:List Stmt}{op:CmpOp}{g:EnvD->Option Xv}
end
inductive SuV (X:Cx) (C:Addr) (ie:Option Nat) (fd:Str):List Stmt->List (Nat×Jt)->Prop
 |nil:SuV X C ie fd [] []
 |cons {fx:Str} {e:Expr} {f:Jt} {i:Nat} {pF epos:Pos} {rest:List Stmt} {l:List (Nat×Jt)} (h:JtOk X C ie fd e f) (hi:X.N[i]?=some fx) (hiL:Loc X.env.scope fx) (hif:X.fn fx=true∨X.env.scope.names.lookup fx=some .local)
   (hs:swapsWith e (some (.Name fx pF)) epos.line X.env=pure false) (hr:SuV X C ie fd rest l):SuV X C ie fd (.Assign [.Name fx pF] e epos::rest) ((i,f)::l)
def tSu (K:KW)(ie:Option Nat)(ea:Addr)(dd:Option Addr)(fd:Str):List (Nat×Jt)->TS
 | []=>λD σ H=>D.nx σ H
 | (i,f)::l=>λD σ H=>lCJ K ie ea dd fd f σ H λv H1=>tSu K ie ea dd fd l D (σ.set i (some v)) H1
section
variable {X:Cx}{B:Bs}{C:Addr}{ie:Option Nat}{ca:Str->Addr}{fd:Str}
theorem Yt (hN:X.N.Nodup):∀ {suite:List Stmt} {l:List (Nat×Jt)},SuV X C ie fd suite l->∀ea oe dd,oe.cls=.ref C->oe.dict=dd->(∃fs,oe.data=.fields fs)->PSs (cxE X ea [(ea,oe)]) suite (tSu X.kw ie ea dd fd l)
 |_,_,.nil,_,_,_,_,_,_=>xb K0 λ_ _ _ q=>q
 |_,_,.cons h hi hiL hif hs hr,ea,oe,dd,h1,h2,h3=>xb (wl (wk (X:=cxE X ea [(ea,oe)]) hN hi hiL (h ea oe dd h1 h2 h3) hs hif) (Yt hN hr ea oe dd h1 h2 h3)) λ_ _ _ q=>q
def suD (q:Option D)(ie:Option Nat):List (Nat×Jt)->EnvD->Option EnvD
 | [],ρ=>some ρ
 | (i,f)::l,ρ=>if ie≠some i then (f q).bind λd=>suD q ie l (ρ.set i (some (.val d))) else none
theorem ZO {K:KW}{ea:Addr}{dd:Option Addr}{q:Option D}{D:Ends}:∀ {l:List (Nat×Jt)} {ρ ρ':EnvD} {σ:St} {F H:Hp},Rep K B F σ H ρ->hasE ie ea σ->Pd K F H fd dd q->suD q ie l ρ=some ρ' ->
  (∀σ2 F2 H2,Rep K B F2 σ2 H2 ρ'->Same F F2->D.nx σ2 H2)->tSu K ie ea dd fd l D σ H
 | [],ρ,ρ',σ,F,H,r,_,_,hs,k=>by cases hs;exact k σ F H r (Same.refl _)
 | (i,f)::l,ρ,ρ',σ,F,H,r,hh,pd,hs,k=>by
  unfold suD at hs
  split at hs
  ·rename_i hne
   cases q1:f q with
   |none=>rw[q1] at hs;cases hs
   |some d=>
    rw[q1,Option.bind_some] at hs
    refine⟨hh,F,q,d,r.fh,pd,q1,λv F1 H1 e1 p1=>ZO ((r.ext e1).setv p1) ?_ (pd.ext e1) hs λσ2 F2 H2 r2 s2=>k σ2 F2 H2 r2 (e1.ff.trans s2)⟩
    cases ie with
    |none=>trivial
    |some kk=>
     show (σ.set i (some v))[kk]?=some (some (.ref ea))
     rw[List.getElem?_set_ne (λz=>hne (by rw[z]))]
     exact hh
  ·cases hs
theorem Qo {q:Option D}{k:Nat}:∀ {l:List (Nat×Jt)} {ρ ρ':EnvD},suD q (some k) l ρ=some ρ'->ρ'[k]?=ρ[k]?
 | [],ρ,ρ',hs=>by cases hs;rfl
 | (i,f)::l,ρ,ρ',hs=>by
  unfold suD at hs
  split at hs
  ·rename_i hne
   cases q1:f q with
   |none=>rw[q1] at hs;cases hs
   |some d=>
    rw[q1,Option.bind_some] at hs
    rw[Qo hs,List.getElem?_set_ne (λz=>hne (by rw[z]))]
  ·cases hs
theorem za6 {K:KW}{F:Hp}{σ:St}{H:Hp}{ρ:EnvD}{i:Nat}{u:Option V}(r:Rep K B F σ H ρ)(h:∀x,ρ[i]?≠some (some x)):Rep K B F (σ.set i u) H ρ:=by
 have ne:∀ {j:Nat} {x:En},ρ[j]?=some (some x)->j≠i:=fun {j x} e z=>by subst z;exact h x e
 refine⟨r.ex,by simp[r.len],λj x e=>?_,λj l y z v w e1 e2 s1 s2 hne=>?_⟩
 ·obtain⟨v,h1,h2⟩:=r.ents j x e
  exact⟨v,by rw[List.getElem?_set_ne (Ne.symm (ne e))];exact h1,h2⟩
 ·rw[List.getElem?_set_ne (Ne.symm (ne e1))] at s1
  rw[List.getElem?_set_ne (Ne.symm (ne e2))] at s2
  exact r.dj j l y z v w e1 e2 s1 s2 hne
end
structure ClV where
 ie:Option Nat
 its:List (Str×List (Nat×Jt))
def pickV:List ClV->Str->Option (Option Nat×List (Nat×Jt))
 | [],_=>none
 |c::r,nm=>match c.its.lookup nm with
  |some l=>some (c.ie,l)
  |none=>pickV r nm
theorem ZS {nm:Str}{c:Option Nat×List (Nat×Jt)}:∀ {cls:List ClV},pickV cls nm=some c->∃d∈cls,d.ie=c.1/\(nm,c.2)∈d.its
 | [],h=>by cases h
 |d::r,h=>by
  unfold pickV at h
  split at h
  ·rename_i l q
   cases h
   exact⟨d,.head _,rfl,jf q⟩
  ·obtain⟨d',h1,h2⟩:=ZS h
   exact⟨d',.tail _ h1,h2⟩
inductive CvOk (X:Cx) (ca:Str->Addr) (fd:Str):List ExceptHandler->List ClV->Prop
 |nil:CvOk X ca fd [] []
 |as {xM n:Str} {MC:Addr} {ie:Nat} {its:List (Str×List (Nat×Jt))} {b0:Stmt} {suite:List Stmt} {rest:List ExceptHandler} {cls:List ClV} {pM hpos:Pos} (hg:Gl X xM) (hm:X.mg xM=some (.ref MC)) (hdb:(xM==("__debug__" : Str))=false)
   (hie:X.N[ie]?=some n) (hl:X.env.scope.names.lookup n=some .local) (hit:∀q∈its,SuV X (ca q.1) (some ie) fd (b0::suite) q.2) (hx:∀q∈its,XM X.K (ca q.1) MC) (hn:∀c∈cls,∀q∈c.its,XN X.K (ca q.1) MC) (hr:CvOk X ca fd rest cls) :
   CvOk X ca fd (.ExceptHandler (some (.Name xM pM)) (some n) (b0::suite) hpos::rest) (⟨some ie,its⟩::cls)
 |no {xM:Str} {MC:Addr} {its:List (Str×List (Nat×Jt))} {b0:Stmt} {suite:List Stmt} {rest:List ExceptHandler} {cls:List ClV} {pM hpos:Pos} (hg:Gl X xM) (hm:X.mg xM=some (.ref MC)) (hdb:(xM==("__debug__" : Str))=false)
   (hit:∀q∈its,SuV X (ca q.1) none fd (b0::suite) q.2) (hx:∀q∈its,XM X.K (ca q.1) MC) (hn:∀c∈cls,∀q∈c.its,XN X.K (ca q.1) MC) (hr:CvOk X ca fd rest cls) :
   CvOk X ca fd (.ExceptHandler (some (.Name xM pM)) none (b0::suite) hpos::rest) (⟨none,its⟩::cls)
def vWish (K:KW)(fd:Str)(c:Option Nat×List (Nat×Jt))(D:Ends)(σ':St)(dd:Option Addr)(H':Hp):Prop:=∀ea,H' ea=none->match c.1 with
 |some k=>tSu K (some k) ea dd fd c.2 { nx:=λσ2 H2=>D.nx (σ2.set k none) H2,rt:=λ_ _=>False } (σ'.set k (some (.ref ea))) H'
 |none=>tSu K none ea dd fd c.2 { nx:=D.nx,rt:=λ_ _=>False } σ' H'
section
variable {X:Cx}{B:Bs}{ca:Str->Addr}{fd:Str}
theorem uG (hN:X.N.Nodup):∀ {hs:List ExceptHandler} {cls:List ClV},CvOk X ca fd hs cls->∃hds,HsOk X hs hds/\∀ {nm:Str} {c:Option Nat×List (Nat×Jt)} {D:Ends} {σ':St} {dd:Option Addr} {H':Hp},pickV cls nm=some c->vWish X.kw fd c D σ' dd H'->hWish X.K hds D σ' (.ref (ca nm)) dd H'
 |_,_,.nil=>⟨[],.nil,λh=>by cases h⟩
 |_,_,@CvOk.as _ _ _ xM n MC ie its b0 suite rest cls pM hpos hg hm hdb hie hl hit hx hn hr=>by
  obtain⟨hds,h1,h2⟩:=uG hN hr
  refine⟨⟨MC,some ie,λea C dd D σ H=>∃q∈its,C=ca q.1/\tSu X.kw (some ie) ea dd fd q.2 D σ H⟩::hds,.as hg hm hdb hie hl (λea oe C dd hc hd hf=>?_) h1,fun {nm c D σ' dd H'} hp hw=>?_⟩
  ·intro pins s σ H D I ⟨q,hq,hC,h⟩
   subst hC
   exact Yt hN (hit q hq) ea oe dd hc hd hf pins s σ H D I h
  ·refine⟨ca nm,rfl,?_⟩
   unfold pickV at hp
   split at hp
   ·rename_i l q
    cases hp
    exact .inl ⟨hx (nm,l) (jf q),λea hea=>⟨(nm,l),jf q,rfl,hw ea hea⟩⟩
   ·obtain⟨d,e1,e2,e3⟩:=ZS hp
    exact .inr ⟨hn d e1 (nm,c.2) e3,h2 hp hw⟩
 |_,_,@CvOk.no _ _ _ xM MC its b0 suite rest cls pM hpos hg hm hdb hit hx hn hr=>by
  obtain⟨hds,h1,h2⟩:=uG hN hr
  refine⟨⟨MC,none,λea C dd D σ H=>∃q∈its,C=ca q.1/\tSu X.kw none ea dd fd q.2 D σ H⟩::hds,.no hg hm hdb (λea oe C dd hc hd hf=>?_) h1,fun {nm c D σ' dd H'} hp hw=>?_⟩
  ·intro pins s σ H D I ⟨q,hq,hC,h⟩
   subst hC
   exact Yt hN (hit q hq) ea oe dd hc hd hf pins s σ H D I h
  ·refine⟨ca nm,rfl,?_⟩
   unfold pickV at hp
   split at hp
   ·rename_i l q
    cases hp
    exact .inl ⟨hx (nm,l) (jf q),λea hea=>⟨(nm,l),jf q,rfl,hw ea hea⟩⟩
   ·obtain⟨d,e1,e2,e3⟩:=ZS hp
    exact .inr ⟨hn d e1 (nm,c.2) e3,h2 hp hw⟩
def okV (ie:Option Nat)(ρ:EnvD):Bool:=match ie with
 |none=>true
 |some k=>unset (ρ[k]?)
def sTryV (cls:List ClV)(gs:SD)(gx:EnvD->Option (EnvD×Xv)):SD:=λρ=>match gs ρ with
 |some fl=>some fl
 |none=>(gx ρ).bind λq=>(pickV cls q.2.1).bind λc=>if okV c.1 q.1=true then (suD q.2.2 c.1 c.2 q.1).map .next else none
variable {gs:SD}{gx:EnvD->Option (EnvD×Xv)}{body:List Stmt}{h0:ExceptHandler}{hs:List ExceptHandler}{cls:List ClV}{pos:Pos}
theorem zay (h1:DSs X.nox B body gs)(h2:∀pn (E:St->XK),DVs (cxT X pn (WX X pn E)) B ca fd E body gx)(hN:X.N.Nodup)(hstk:X.stack=X.env::X.outer/\X.env.frame=some X.env.locals)(hc:CvOk X ca fd (h0::hs) cls) :
  DS X B (.Try body (h0::hs) [] [] pos) (sTryV cls gs gx):=by
 obtain⟨hds,hh,hw⟩:=uG hN hc
 refine zD (RS (t1:=lS X.kw B gs) (t2:=λE _ σ H=>lVs X.kw B ca fd E gx σ H) h1 h2 hN hstk hh) λD σ H h=>?_
 obtain⟨F,ρ,fl,r,hgg,k⟩:=h
 unfold sTryV at hgg
 cases q1:gs ρ with
 |some f1=>
  rw[q1] at hgg
  have hgg:some f1=some fl:=hgg
  cases hgg
  exact .inl ⟨F,ρ,fl,r,q1,k⟩
 |none=>
  rw[q1] at hgg
  replace hgg:((gx ρ).bind λq=>(pickV cls q.2.1).bind λc=>if okV c.1 q.1=true then (suD q.2.2 c.1 c.2 q.1).map Fl.next else none)=some fl:=hgg
  obtain⟨q,q2,hgg⟩:=Option.bind_eq_some_iff.mp hgg
  obtain⟨c,q3,hgg⟩:=Option.bind_eq_some_iff.mp hgg
  split at hgg
  ·rename_i hok
   cases q4:suD q.2.2 c.1 c.2 q.1 with
   |none=>rw[q4] at hgg;cases hgg
   |some ρ'=>
    rw[q4] at hgg
    cases hgg
    refine .inr ⟨F,ρ,q,r,q2,λdd σ' F' H' r' s' pd=>hw q3 ?_⟩
    intro ea hea
    obtain⟨ie,fs⟩:=c
    cases ie with
    |none=>exact ZO (D:={ nx:=D.nx,rt:=λ_ _=>False }) r' trivial pd q4 λσ2 F2 H2 r2 s2=>k σ2 F2 H2 r2 (s'.trans s2)
    |some kk=>
     have e4:q.1[kk]?=some none:=za0 hok
     have len:kk < σ'.length:=by rw[r'.len];exact (List.getElem?_eq_some_iff.mp e4).1
     have nx:∀x,q.1[kk]?≠some (some x):=λx z=>by rw[e4] at z;cases z
     refine ZO (D:={ nx:=λσ2 H2=>D.nx (σ2.set kk none) H2,rt:=λ_ _=>False }) (za6 r' nx) (List.getElem?_set_self len) pd q4 λσ2 F2 H2 r2 s2=>?_
     refine k _ F2 H2 (GR r2 λx z=>?_) (s'.trans s2)
     rw[Qo q4,e4] at z
     cases z
  ·cases hgg
end
section
variable {X:Cx}{pins:List (Addr×Obj)}{σ:St}{H:Hp}{s:Shared}
end
theorem zgb {K:PySem.W.Frag}{C:Addr}{T:String}(h1:PySem.W.kitMeta T=true)(h3:subIn K (.ref C) (.type T)=some true):kitOne K (.ref C) (.type T)=some true:=by
 unfold kitOne
 split
 ·rfl
 ·unfold PySem.W.kitCls
  simp[h1,h3]
section
variable {X:Cx}{B:Bs}{pos:Pos}
end
section
variable {X:Cx}{B:Bs}{e a:Expr}{x:Str}{p p2 pos apos:Pos}{C M:Addr}{g:EnvD->Option D}
theorem UP {α:Type}{post:Post α}{g1 g2:EnvD->Option α}(h1:PE X e (lG X.kw B post g1))(h2:PE X e (lG X.kw B post g2)):PE X e (lG X.kw B post (yAlt g1 g2)):=λpins s σ H Q I ⟨F,ρ,d,r,hg,k⟩=>by
 unfold yAlt at hg
 split at hg
 ·rename_i q hq;cases hg;exact h1 pins s σ H Q I ⟨F,ρ,d,r,hq,k⟩
 ·exact h2 pins s σ H Q I ⟨F,ρ,d,r,hg,k⟩
theorem yv {g1 g2:EnvD->Option D}(h1:DE X B e g1)(h2:DE X B e g2):DE X B e (yAlt g1 g2):=UP h1 h2
variable {mm:Str}{n k:Nat}{m:List En->Option En}{gxs:EnvD->Option (List En)}{o:Expr}{es:List Expr}
structure IO (K:PySem.W.Frag)(C:Addr):Prop where
 cl:Cls K C
 ha:findIn K (.ref C) "__class__" = some (some (.builtin "object.__class__"))
 hn:PySem.W.specialIn K (.builtin "object.__class__") "__get__" = some (some (.builtin "getset_descriptor.__get__"))
 htk:PySem.W.takesIn K (.builtin "object.__class__")=some true
 hm:PySem.W.mroIn K C (.type "object")=some true
end
structure BO (K:PySem.W.Frag)(V f:Addr):Prop where
 sp:PySem.W.specialIn K (.ref V) "__getattribute__" = some (some (.builtin "type.__getattribute__"))
 rd:PySem.W.readsIn K V (.type "type")=true
 fc:PySem.W.findCls K (.ref V) (.type "type") "__init__" = some (.val (.ref f))
 hn:PySem.W.handedIn (.ref f)=true
 kp:keepIn K (.ref f)=true
def InsOk (H:Hp):Prop:=∀a C dx fs,H a=some (.ins C dx fs)->H dx=some (.own a)/\dx≠a
def tBaseO (sp:Sp)(t:TA):TE:=λσ H Q=>t σ H λvs H1=>InsOk H1->sp vs H1 Q E0
section
variable {X:Cx}{k:Nat}{f V:Addr}{fd:FuncData}{ps:List Str}{sp:Sp}{x:Str}{p pos apos:Pos}{e:Expr}{es:List Expr}{t:TA}
theorem zaa {pl:Sem Bool}(bo:BO X.K V f)(F:FnOk X.prog X.w X.K X.mg X.base CX0 k f fd ps sp)(hr:Room k X.A)(hg:Gl X x)(hm:X.mg x=some (.ref V))(hb:Binds X.K fd ps [])(ha:PA X (e::es) t)
  (hdb:#[20]=false:=by decide +kernel)
  (hst:starEach (e::es) X.env=(false,eval e X.env)::starEach es X.env:=by rfl) (hpl:#[24].any (·.1)=false:=by rfl)
  (ht:eval (.Call (.Attribute #[11] "__init__" apos) (e::es) [] pos) X.env=(do
   let ov <-eval #[11] X.env
   standAt apos.atName
   let (f,first) <-holding [ov] (getMethod ov "__init__" pl)
   callWith pos f first (backTo pos (starEach (e::es) X.env)) (backToKw pos (keywordEach [] X.env))):=by rfl) :
  PE X (.Call (.Attribute #[11] "__init__" apos) (e::es) [] pos) (tBaseO sp t):=by
 intro pins s σ H Q I h
 refine PySem.W.methodCall_KW (pl:=pl) (x5 I hg hm ?_ hdb) ht
 refine PySem.W.method_cls I.kIn bo.sp (PySem.W.cls_value I.kIn bo.rd bo.fc bo.hn ?_)
 have I0:=I.tok (s.toks+1)
 refine PySem.W.callWith_K (h₀:=X.base) (first:=[]) I.ok.mod.kin bo.kp (thn (ha pos pins _ σ H _ I0 h) λus s1 ⟨vs,H1,I1,r1,q1⟩=>⟨I1.kIn,?_⟩) hst hpl
 have io:InsOk H1:=λa C dx fs ea=>by
  obtain⟨h1,_,h2,_⟩:=(show ObjOk X.prog X.w H1 s1.heap a (.ins C dx fs) from I1.hok a _ ea)
  exact⟨h1,h2⟩
 have q:=q1 io
 exact qA (dvs:=[]) (E:=E0) F hr hb .nil pass0 I1 r1 (by rw[List.append_nil];exact q)
end
def cutO (H:Hp)(a dx:Addr):Hp:=λb=>if b=a∨b=dx then none else H b
theorem xx {H:Hp}{a dx b:Addr}(h1:b≠a)(h2:b≠dx):cutO H a dx b=H b:=by unfold cutO;rw[if_neg (by intro z;rcases z with z | z;exact h1 z;exact h2 z)]
theorem zbi {H:Hp}{a dx C:Addr}{fs:List (Str×V)}(h1:H a=some (.ins C dx fs))(h2:H dx=some (.own a))(h3:dx≠a):upd (upd (cutO H a dx) dx (.own a)) a (.ins C dx fs)=H:=by
 funext b
 by_cases ha:b=a
 ·subst ha;rw[zy,h1]
 ·rw[zr ha]
  by_cases hd:b=dx
  ·subst hd;rw[zy,h2]
  ·rw[zr hd,xx ha hd]
section
variable {K:KW}{B:Bs}{F H:Hp}{a dx C:Addr}{fs0:List (Str×V)}
theorem wR {b:Addr}{o:HO}(h1:H a=some (.ins C dx fs0))(h2:H dx=some (.own a))(h:H b=some o)(n1:∀C dx fs,o≠.ins C dx fs)(n2:∀x,o≠.own x):cutO H a dx b=some o:=by
 rw[xx (x6 h h1 (n1 _ _ _)) (x6 h h2 (n2 _))];exact h
mutual
theorem RepO.cut (h1:H a=some (.ins C dx fs0))(h2:H dx=some (.own a)):∀ {t:OT} {v:V},RepO K F H t v->RepO K F (cutO H a dx) t v/\feetO (cutO H a dx) t v=feetO H t v
 |.frz _,_,r=>⟨r,rfl⟩
 |.lst ts,_,⟨b,vs,e,q,r⟩=>by
  subst e
  have q':cutO H a dx b=some (.lst vs):=wR h1 h2 q (by intro _ _ _ z;cases z) (by intro _ z;cases z)
  obtain⟨r1,r2⟩:=RepOs.cut h1 h2 r
  exact⟨⟨b,vs,rfl,q',r1⟩,by simp only[feetO,y0 q,y0 q',r2]⟩
 |.tup ts,_,⟨b,vs,e,q,r⟩=>by
  subst e
  have q':cutO H a dx b=some (.tup vs):=wR h1 h2 q (by intro _ _ _ z;cases z) (by intro _ z;cases z)
  obtain⟨r1,r2⟩:=RepOs.cut h1 h2 r
  exact⟨⟨b,vs,rfl,q',r1⟩,by simp only[feetO,yD q,yD q',r2]⟩
theorem RepOs.cut (h1:H a=some (.ins C dx fs0))(h2:H dx=some (.own a)):∀ {ts:List OT} {vs:List V},RepOs K F H ts vs->RepOs K F (cutO H a dx) ts vs/\feetOs (cutO H a dx) ts vs=feetOs H ts vs
 | [],_,r=>⟨r,rfl⟩
 |t::ts,_,⟨v,r,e,g1,g2⟩=>by
  subst e
  obtain⟨a1,a2⟩:=RepO.cut h1 h2 g1
  obtain⟨b1,b2⟩:=RepOs.cut h1 h2 g2
  exact⟨⟨v,r,rfl,a1,b1⟩,by simp only[feetOs,a2,b2]⟩
end
theorem RepE.cut {x:En}{v:V}(h1:H a=some (.ins C dx fs0))(h2:H dx=some (.own a))(r:RepE K B F H x v)(hn:a∉feetE H x v):RepE K B F (cutO H a dx) x v/\feetE (cutO H a dx) x v=feetE H x v:=by
 cases x with
 |val d=>exact⟨r,rfl⟩
 |bor ds=>exact⟨r,rfl⟩
 |acc ds=>
  obtain⟨b,vs,rfl,q2,q3,q4,q5⟩:=r
  exact⟨⟨b,vs,rfl,wR h1 h2 q2 (by intro _ _ _ z;cases z) (by intro _ z;cases z),q3,q4,q5⟩,rfl⟩
 |oac b dx' C' fs ds=>
  obtain⟨vs,rfl,q2,ql,q3,q4,q5,d1,d2,d3⟩:=r
  have hb:b≠a:=λz=>hn (by simp[feetE,z])
  have hb2:b≠dx:=x6 q2 h2 (by intro z;cases z)
  have hd:dx'≠a:=x6 d1 h1 (by intro z;cases z)
  have hd2:dx'≠dx:=λz=>by rw[z,h2] at d1;cases d1;exact hb rfl
  exact⟨⟨vs,rfl,by rw[xx hb hb2];exact q2,ql,q3,q4,q5,by rw[xx hd hd2];exact d1,d2,d3⟩,rfl⟩
 |tre t=>
  obtain⟨r1,r2,r3⟩:=r
  obtain⟨s1,s2⟩:=RepO.cut h1 h2 r1
  exact⟨⟨s1,by rw[s2];exact r2,λb hb=>r3 b (by rw[s2] at hb;exact hb)⟩,s2⟩
 |dct oa kvs=>
  obtain⟨b,ob,vs,rfl,q2,q3,q4,q5⟩:=r
  exact⟨⟨b,ob,vs,rfl,wR h1 h2 q2 (by intro _ _ _ z;cases z) (by intro _ z;cases z),q3,q4,q5⟩,rfl⟩
 |dbo kvs=>exact⟨r,rfl⟩
 |exn a=>exact⟨r,rfl⟩
 |obw C' fs ds=>
  obtain⟨b,dx',vs,rfl,q2,ql,q3,q4,q5,d1,d2,d3⟩:=r
  have hb:b≠a:=λz=>hn (by simp[feetE,z])
  have hb2:b≠dx:=x6 q2 h2 (by intro z;cases z)
  have hd:dx'≠a:=x6 d1 h1 (by intro z;cases z)
  have hd2:dx'≠dx:=λz=>by rw[z,h2] at d1;cases d1;exact hb rfl
  exact⟨⟨b,dx',vs,rfl,by rw[xx hb hb2];exact q2,ql,q3,q4,q5,by rw[xx hd hd2];exact d1,d2,d3⟩,rfl⟩
theorem ArgE.cut {x:En}{v:V}(h1:H a=some (.ins C dx fs0))(h2:H dx=some (.own a))(r:ArgE K F H x v):ArgE K F (cutO H a dx) x v:=by
 cases x with
 |val d=>exact r
 |bor ds=>
  obtain⟨b,vs,e1,e2,e3⟩:=r
  exact⟨b,vs,e1,wR h1 h2 e2 (by intro _ _ _ z;cases z) (by intro _ z;cases z),e3⟩
 |dbo kvs=>
  obtain⟨b,ob,vs,e1,e2,e3⟩:=r
  exact⟨b,ob,vs,e1,wR h1 h2 e2 (by intro _ _ _ z;cases z) (by intro _ z;cases z),e3⟩
 |exn b=>exact r
 |acc ds=>exact r
 |oac _ _ _ _ _=>exact r
 |obw _ _ _=>exact r
 |tre t=>exact r
 |dct oa kvs=>exact r
theorem Rep.fill {σ:St}{ρ:EnvD}{i:Nat}{F' H':Hp}{fs:List Str}{ds:List D}{us:List V}(r:Rep K B F σ H ρ)(hi:ρ[i]?=some (some (.oac a dx C [] [])))(e:Ext F (cutO H a dx) F' H')(f1:F' a=none)(g1:H' a=some (.ins C dx (fs.zip us)))(g2:fs.length=us.length)(g3:Rps K F' ds us)(g4:H' dx=some (.own a))(g5:F' dx=none) :
  Rep K B F' σ H' (ρ.set i (some (.oac a dx C fs ds))):=by
 obtain⟨v0,s0,vs0,rfl,e1,_,e3,e4,_,d1,d2,d3⟩:=r.ents i _ hi
 have h1:H a=some (.ins C dx []):=by simpa using e1
 have oth:∀ {j:Nat} {z:En} {w:V},ρ[j]?=some (some z)->σ[j]?=some (some w)->j≠i->RepE K B F' H' z w/\feetE H' z w=feetE H z w:=fun {j z w} hj s hne=>by
  obtain⟨w',hw',rz⟩:=r.ents j z hj
  rw[s] at hw';cases hw'
  obtain⟨c1,c2⟩:=rz.cut h1 d1 (λhz=>r.dj i j _ z _ w hi hj s0 s (Ne.symm hne) a (by simp[feetE]) hz)
  exact⟨c1.ext e,by rw[c1.feet_ext e.hh,c2]⟩
 refine⟨⟨r.ex.ff.trans e.ff,λb u q=>?_,e.fh,λb q=>?_⟩,by simp[r.len],λj z q=>?_,λj k z w u t q1 q2 s1 s2 hne b hb hc=>?_⟩
 ·exact e.hh b u (by rw[xx (zH q e4) (zH q d3)];exact r.ex.hh b u q)
 ·rcases e.nw b q with z | z
  ·exact r.ex.nw b z
  ·unfold cutO at z
   split at z
   ·rename_i w
    rcases w with rfl | rfl
    ·exact .inr e4
    ·exact .inr d3
   ·exact .inr (r.ex.hh.free z)
 ·rcases yo q with⟨rfl,q1,_⟩ | ⟨hj,q⟩
  ·cases q1
   exact⟨.ref a,s0,us,rfl,g1,g2,f1,e4,g3,g4,g5,d3⟩
  ·obtain⟨w,w1,_⟩:=r.ents j z q
   exact⟨w,w1,(oth q w1 hj).1⟩
 ·have fi:∀ {y:En} {v:V},y=.oac a dx C fs ds->v=.ref a->∀b∈feetE H' y v,b=a:=fun {y v} hy hv b hb=>by subst hy hv;simpa[feetE] using hb
  rcases yo q1 with⟨rfl,p1,_⟩ | ⟨hj,f1'⟩<;>rcases yo q2 with⟨rfl,p2,_⟩ | ⟨hk,f2'⟩
  ·exact hne rfl
  ·cases p1
   rw[s0] at s1;cases s1
   obtain rfl:=fi rfl rfl b hb
   rw[(oth f2' s2 hk).2] at hc
   exact r.dj _ k _ w _ t hi f2' s0 s2 hne b (by simp[feetE]) hc
  ·cases p2
   rw[s0] at s2;cases s2
   obtain rfl:=fi rfl rfl b hc
   rw[(oth f1' s1 hj).2] at hb
   exact r.dj j _ z _ u _ f1' hi s1 s0 hne b hb (by simp[feetE])
  ·rw[(oth f1' s1 hj).2] at hb
   rw[(oth f2' s2 hk).2] at hc
   exact r.dj j k z w u t f1' f2' s1 s2 hne b hb hc
end
def sBase (i:Nat)(C:Addr)(n:Nat)(mi:Addr->Addr->List En->Option #[22])(gs:EnvD->Option (List En)):SD:=λρ=>match ρ[i]? with
 |some (some (.oac a dx C' [] []))=>if C'=C then (gs ρ).bind λxs=>if xs.length=n then (mi a dx xs).map λr=>.next (ρ.set i (some (.oac a dx C r.1 r.2))) else none else none
 |_=>none
section
variable {X:Cx}{B:Bs}{k n:Nat}{f V C:Addr}{fd:FuncData}{ps:List Str}{x y:Str}{p p2 pos apos cpos:Pos}{es:List Expr}{gs:EnvD->Option (List En)}{mi:Addr->Addr->List En->Option #[22]}
theorem zb7 {pl:Sem Bool}(i:Nat)(bo:BO X.K V f)(F:FnOk X.prog X.w X.kw X.mg X.base CX0 k f fd ps (iSp X.kw C n mi))(hr:Room k X.A)(hg:Gl X x)(hm:X.mg x=some (.ref V))(hb:Binds X.kw fd ps [])(hv:PE X (.Name y p2) (tVar i))(ha:DNs X B es gs)
  (hdb:#[20]=false:=by decide +kernel)
  (hst:starEach (.Name y p2::es) X.env=(false,eval (.Name y p2) X.env)::starEach es X.env:=by rfl) (hpl:(backTo cpos (starEach es X.env)).any (·.1)=false:=by rfl)
  (ht:eval (.Call (.Attribute #[11] "__init__" apos) (.Name y p2::es) [] cpos) X.env=(do
   let ov <-eval #[11] X.env
   standAt apos.atName
   let (f,first) <-holding [ov] (getMethod ov "__init__" pl)
   callWith cpos f first (backTo cpos (starEach (.Name y p2::es) X.env)) (backToKw cpos (keywordEach [] X.env))):=by rfl)
  (hs:swapsWith (.Call (.Attribute #[11] "__init__" apos) (.Name y p2::es) [] cpos) none pos.line X.env=pure false:=by rfl) :
  DS X B (.Expr (.Call (.Attribute #[11] "__init__" apos) (.Name y p2::es) [] cpos) pos) (sBase i C n mi gs) :=
 zD (wy (zaa bo F hr hg hm hb (zW hv ha hst) hdb hst hpl ht) hs) λD σ H ⟨F0,ρ,fl,r,hgq,kk⟩=>by
  unfold sBase at hgq
  split at hgq
  ·rename_i a dx C' q
   split at hgq
   ·rename_i hc
    subst hc
    cases q1:gs ρ with
    |none=>rw[q1] at hgq;cases hgq
    |some xs=>
     rw[q1,Option.bind_some] at hgq
     split at hgq
     ·rename_i hl
      cases q2:mi a dx xs with
      |none=>rw[q2] at hgq;cases hgq
      |some fr=>
       rw[q2] at hgq
       cases hgq
       obtain⟨v0,s0,_,hv0,_⟩:=r.ents i _ q
       subst hv0
       refine⟨.ref a,s0,F0,ρ,xs,r,q1,λvs F1 H1 e1 p1 io=>?_⟩
       have r1:=r.ext e1
       obtain⟨v1,s1,vs0,hv1,g1,_,g3,g4,_,d1,d2,d3⟩:=r1.ents i _ q
       have h1:H1 a=some (.ins C' dx []):=by simpa using g1
       have nex:dx≠a:=(io a C' dx [] h1).2
       refine⟨F1,cutO H1 a dx,xs,a,dx,vs,fr.1,fr.2,rfl,by unfold cutO;rw[if_pos (.inl rfl)],by unfold cutO;rw[if_pos (.inr rfl)],nex,(zbi h1 d1 nex).symm,λb o hb=>?_,hl,Paired.mapP p1 λ_ _ h=>ArgE.cut h1 d1 h,q2,λF' H' us e f1 g1' g2' g3' gd=>?_⟩
       ·rw[xx (zH hb g3) (zH hb d2)];exact e1.fh b o hb
       ·exact kk σ F' H' (r1.fill q e f1 g1' g2' g3' gd.1 gd.2) (e1.ff.trans e.ff)
     ·cases hgq
   ·cases hgq
  ·cases hgq
structure Bo (P:Program)(w:World)(K:PySem.W.Frag)(mg:Str->Option Value)(base:Heap)(V C:Addr)(k n:Nat)(mi:Addr->Addr->List En->Option #[22]):Prop where
 ex:∃f f0 ps,BO K V f/\FnOk P w K mg base CX0 k f f0 ps (iSp ⟨K,w⟩ C n mi)/\Binds K f0 ps []
theorem JI {pl:Sem Bool}(i:Nat)(h:Bo X.prog X.w X.kw X.mg X.base V C k n mi)(hr:Room k X.A)(hg:Gl X x)(hm:X.mg x=some (.ref V))(hv:PE X (.Name y p2) (tVar i))(ha:DNs X B es gs)
  (hdb:#[20]=false:=by decide +kernel)
  (hst:starEach (.Name y p2::es) X.env=(false,eval (.Name y p2) X.env)::starEach es X.env:=by rfl) (hpl:(backTo cpos (starEach es X.env)).any (·.1)=false:=by rfl)
  (ht:eval (.Call (.Attribute #[11] "__init__" apos) (.Name y p2::es) [] cpos) X.env=(do
   let ov <-eval #[11] X.env
   standAt apos.atName
   let (f,first) <-holding [ov] (getMethod ov "__init__" pl)
   callWith cpos f first (backTo cpos (starEach (.Name y p2::es) X.env)) (backToKw cpos (keywordEach [] X.env))):=by rfl)
  (hs:swapsWith (.Call (.Attribute #[11] "__init__" apos) (.Name y p2::es) [] cpos) none pos.line X.env=pure false:=by rfl) :
  DS X B (.Expr (.Call (.Attribute #[11] "__init__" apos) (.Name y p2::es) [] cpos) pos) (sBase i C n mi gs):=by
 obtain⟨f,f0,ps,bo,F,hb⟩:=h.ex
 exact zb7 i bo F hr hg hm hb hv ha hdb hst hpl ht hs
end
end Dv
namespace L4
open PySem PySem.Spec L2 L3
open PyProof.Rows hiding St
def tXDisp (w:World)(trs:List (TE×TE)):TE:=λσ H Q=>∀p,H p=none->tPairs trs σ (upd H p (.dK [])) λps H2=>H2 p=some (.dK [])/\∃kvs:List (Key×V),ps=kvs.map (λkv=>(kV kv.1,kv.2))/\kvs.length<=15/\∀ob,Q (.ref p) (upd H2 p (DX w p ob (mergeK [] kvs)))
theorem zbd {X:Cx}{pos:Pos}{keys:List (Option Expr)}{values:List Expr}{trs:List (TE×TE)}(h:PPs X pos keys values trs)(hall:keys.all (·.isSome)=true)(hl:keys.length=values.length)(h0:keys≠[])
  (h15:keys.length<=15):PE X (.Dict keys values pos) (tXDisp X.w trs):=by
 intro pins s σ H Q I q
 have hn:=I.hok.fresh (Nat.le_refl s.heap.objs.size)
 have I1:=I.laid (a:=s.heap.objs.size) (o:=.dK []) (h':=s.heap.push { cls:=.type "dict",data:=.dict #[] }) (t':=s.toks) (λ_ _ q=>Heap.get?_push_of_some _ q) (Nat.le_refl _) (zd5 s.heap I.big)
 refine wpAny_Dict_walk (knd:=zP X.prog X.w) hall hl h0 h15 (thn (h pins _ σ _ _ I1 (q _ hn)) λws s2 ⟨ps,H2,I2,rel,e,kvs,ep,lk,q2⟩=>?_)
 subst ep
 obtain⟨rs,c,rk⟩:=Wp (P:=X.prog) (w:=X.w) rel
 obtain⟨z,hd,vs0,r0,dd⟩:=zcl I2.hok e
 cases r0
 refine⟨rs,c,dd,λh' dd' hs=>?_⟩
 have hz:(mergeK [] kvs).length<=sizeLine:=by
  have h1:=VM kvs []
  rw[List.length_nil] at h1
  rw[sizeLine_eq];omega
 obtain⟨ob,ho,new⟩:=qk (P:=X.prog) (w:=X.w) hz hd (rk.merge .nil) dd'
 exact⟨.ref s.heap.objs.size,_,ZF I2 (by rw[e];exact True.intro) hs ⟨ob,ho⟩ (new _),rfl,q2 ob⟩
end L4
namespace Dv
open PySem PySem.Spec L2 L3 L4 L6
open PyProof.Rows hiding St
section
variable {X:Cx}{B:Bs}{e:Expr}{pos p1 p2:Pos}{k:Str}{v:Int}{gk:EnvD->Option (List (Key×D))}
def gLit1 (k:Str)(v:Int):EnvD->Option (List (Key×D)):=λ_=>some [(.inr k,.int v)]
@[simp]theorem zh2 {ρ:EnvD}:gLit1 k v ρ=some [(.inr k,.int v)]:=rfl
theorem Ut {j1 j2}:DD X B (.Dict [some (.Constant (.str k) j1 p1)] [.Constant (.int v) j2 p2] pos) (gLit1 k v) :=
 zt (zbd (zan qQ Wn Rt) rfl rfl (by simp) (by simp)) λσ H Q ⟨F,ρ,d,r,hg,kk⟩=>by
  cases hg
  intro p hp
  refine⟨zy,[(.inr k,.int v)],rfl,by simp,λob=>?_⟩
  rw[zg2]
  exact kk _ F _ (.new r.fh hp) ⟨p,ob,[(.inr k,.int v)],rfl,hp,zy,r.fh.free hp,.cons ⟨rfl,rfl⟩ .nil⟩
def sBrk:SD:=λρ=>some (.brk ρ)
@[simp]theorem zld {ρ:EnvD}:sBrk ρ=some (.brk ρ):=rfl
theorem zhj:DS X B (.Break pos) sBrk:=zD GG λD σ H ⟨F,ρ,fl,r,hg,kk⟩=>by
 cases hg
 exact kk σ F H r (Same.refl _)
end
section
variable {X:Cx}{B:Bs}{e a o:Expr}{es:List Expr}{g:EnvD->Option OT}{ks:List Nat}{k:Nat}{pos p apos cpos:Pos}{nm:Str}{id:String}{r:V->List V->Hp->VK->Prop}{f:List D->List D->Option #[3]}{gs:EnvD->Option #[3]}
end
section
variable {X:Cx}{B:Bs}{e:Expr}{g:EnvD->Option D}{pos p2:Pos}
end
end Dv
namespace L4
open PySem PySem.Spec L2 L3
open PyProof.Rows hiding St
section
variable {X:Cx}
theorem zcx:CallR X (.type "dict") (λxs H Q=>∃a ob kvs,xs=[V.ref a]/\H a=some (DX X.w a ob kvs)/\∀p ob',H p=none->Q (.ref p) (upd H p (DX X.w p ob' kvs))):=by
 intro pins s σ H vs us Q I r h
 obtain⟨a,ob,kvs,rfl,hq,q⟩:=h
 obtain⟨u,rfl,ru⟩:=vals1 r
 cases ru
 obtain⟨_,z,hd,vs,rel,_,dd⟩:=xg I hq
 refine kt_call_dict hd dd (by rw[<-rel.length];exact z) λh' dd' hs=>?_
 obtain⟨o',ho',new⟩:=qk (P:=X.prog) (w:=X.w) (kvs:=kvs) z (beq_eq_false_iff_ne.mpr (Ne.symm (Nat.ne_of_lt I.big))) rel dd'
 exact⟨.ref s.heap.objs.size,_,I.laid (a:=s.heap.objs.size) (o:=DX X.w s.heap.objs.size o' kvs) (t':=s.toks) (λb q hq=>(hs.2 b (Nat.ne_of_lt (Heap.lt_size hq))).trans (Heap.get?_push_of_some _ hq)) (Nat.le_refl _) (new _),rfl,q _ o' (I.hok.fresh (Nat.le_refl _))⟩
end
end L4
namespace Dv
open PySem PySem.Spec L2 L3 L4 L6
open PyProof.Rows hiding St
section
variable {X:Cx}{B:Bs}{e:Expr}{pos p:Pos}{gk:EnvD->Option (List (Key×D))}
theorem zam (hg:Gl X "dict") (hm:X.mg "dict" = none) (h:DK X B e gk) (he:starEach [e] X.env=(false,eval e X.env)::starEach [] X.env:=by rfl):DD X B (.Call (.Name "dict" p) [e] [] pos) gk :=
 zt (qX zcx hg hm #[13] (zW h yr he) #[7] #[7] he rfl) λσ H Q ⟨F,ρ,d,r,hg,k⟩=>by
  refine⟨F,ρ,d,r,hg,λv F' H' e1 ⟨a,ob,vs,h1,h2,h3⟩=>⟨a,ob,vs,by rw[h1],h2,λp' ob' hn=>?_⟩⟩
  exact k _ F' _ (e1.trans (.new e1.fh hn)) ⟨p',ob',vs,rfl,e1.hh.free hn,zy,e1.fh.free hn,h3⟩
end
def pB (K:KW)(B:Bs):Post En:=λ_ _ F' _ x v=>(∃d,x=.val d/\Rp K F' d v)∨∃ds a vs,x=.bor ds/\v=.ref a/\B.H0 a=some (.lst vs)/\Rps K F' ds vs
section
variable {X:Cx}{B:Bs}{e a b c:Expr}{pos pos':Pos}{x:Str}{i:Nat}{g:EnvD->Option D}{ga gb:EnvD->Option En}{ta:EnvD->Option Bool}
def DBv (X:Cx)(B:Bs)(e:Expr)(g:EnvD->Option En):Prop:=PE X e (lG X.kw B (pB X.kw B) g)
def gvb (i:Nat):EnvD->Option En:=λρ=>match ρ[i]? with
 |some (some (.val d))=>some (.val d)
 |some (some (.bor ds))=>some (.bor ds)
 |_=>none
theorem RW (i:Nat)(h:PE X (.Name x pos) (tVar i)):DBv X B (.Name x pos) (gvb i) :=
 zt h λσ H Q ⟨F,ρ,d,r,hg,k⟩=>by
  unfold gvb at hg
  split at hg
  ·rename_i d' e
   cases hg
   obtain⟨v,h1,h2⟩:=r.ents i _ e
   exact⟨v,h1,k v F H (.refl r.fh) (.inl ⟨_,rfl,h2⟩)⟩
  ·rename_i ds e
   cases hg
   obtain⟨v,h1,a,vs,e1,e2,e5⟩:=r.ents i _ e
   exact⟨v,h1,k v F H (.refl r.fh) (.inr ⟨_,a,vs,rfl,e1,e2,e5⟩)⟩
  ·cases hg
theorem Rv (h:DE X B e g):DBv X B e (gVal g):=zt h λσ H Q ⟨F,ρ,d,r,hg,k⟩=>by
 unfold gVal at hg
 cases q:g ρ with
 |none=>rw[q] at hg;cases hg
 |some d'=>rw[q] at hg;cases hg;exact⟨F,ρ,d',r,q,λv F1 H1 e1 p1=>k v F1 H1 e1 (.inl ⟨_,rfl,p1⟩)⟩
def gIfB (t:EnvD->Option Bool)(ga gb:EnvD->Option En):EnvD->Option En:=λρ=>(t ρ).bind λx=>if x then ga ρ else gb ρ
theorem zep (ht:DT X B c ta)(ha:DBv X B a ga)(hb:DBv X B b gb):DBv X B (.IfExp c a b pos) (gIfB ta ga gb) :=
 zt (J7 ht ha hb) λσ H Q ⟨F,ρ,d,r,hg,k⟩=>by
  unfold gIfB at hg
  cases q:ta ρ with
  |none=>rw[q] at hg;cases hg
  |some x=>
   rw[q] at hg
   refine⟨F,ρ,x,r,q,λF1 H1 e1=>?_⟩
   cases x with
   |true=>exact iteT ⟨F1,ρ,d,r.ext e1,hg,λv F2 H2 e2 p2=>k v F2 H2 (e1.trans e2) p2⟩
   |false=>exact iteF ⟨F1,ρ,d,r.ext e1,hg,λv F2 H2 e2 p2=>k v F2 H2 (e1.trans e2) p2⟩
def sSetB (i:Nat)(g:EnvD->Option En):SD:=λρ=>(g ρ).map λx=>.next (ρ.set i (some x))
theorem Gk (hN:X.N.Nodup)(hi:X.N[i]?=some x)(hx:Loc X.env.scope x)(he:DBv X B e ga)(hs:swapsWith e (some (.Name x pos')) pos.line X.env=pure false:=by rfl)(hf:X.fn x=true∨X.env.scope.names.lookup x=some .local:=by first | exact .inl rfl | exact .inr rfl | assumption) :
  DS X B (.Assign [.Name x pos'] e pos) (sSetB i ga):=zD (wk hN hi hx he hs hf) λE σ H ⟨F,ρ,fl,r,hg,k⟩=>by
 unfold sSetB at hg
 cases q:ga ρ with
 |none=>rw[q] at hg;cases hg
 |some y=>
  rw[q] at hg
  cases hg
  refine⟨F,ρ,y,r,q,λv F1 H1 e1 p1=>?_⟩
  rcases p1 with⟨d,rfl,p⟩ | ⟨ds,a,vs,rfl,h1,h2,h3⟩
  ·exact k _ F1 H1 ((r.ext e1).setv p) e1.ff
  ·exact k _ F1 H1 ((r.ext e1).seto (x:=.bor ds) ⟨a,vs,h1,h2,h3⟩ λ_ _ _ _ _ _ b hb=>by cases hb) e1.ff
@[simp]theorem zjd {ρ:EnvD}:gvb i ρ=match ρ[i]? with
 |some (some (.val d))=>some (.val d)
 |some (some (.bor ds))=>some (.bor ds)
 |_=>none:=rfl
@[simp]theorem zir {ρ:EnvD}:gIfB ta ga gb ρ=(ta ρ).bind λx=>if x then ga ρ else gb ρ:=rfl
@[simp]theorem zh1 {ρ:EnvD}:sSetB i ga ρ=(ga ρ).map λx=>.next (ρ.set i (some x)):=rfl
end
section
variable {X:Cx}{B:Bs}{o:Expr}{apos cpos pos:Pos}{i:Nat}{gp:EnvD->Option (List Nat)}
end
section
variable {K:KW}{B:Bs}{F H:Hp}
end
section
variable {X:Cx}{B:Bs}{e tg ck:Expr}{es:List Expr}{x:Str}{pos p p1 p2:Pos}{g:EnvD->Option OT}{gd:EnvD->Option D}{gs:EnvD->Option #[3]}
end
def pO (K:KW)(C:Addr):Post #[22]:=λ_ H F' H' x v=>∃a dx vs,v=.ref a/\H a=none/\H' a=some (.ins C dx (x.1.zip vs))/\x.1.length=vs.length/\F' a=none/\Rps K F' x.2 vs/\H' dx=some (.own a)/\F' dx=none/\H dx=none
def DOb (X:Cx)(B:Bs)(C:Addr)(e:Expr)(g:EnvD->Option #[22]):Prop:=PE X e (lG X.kw B (pO X.kw C) g)
def gMakeO (n:Nat)(mi:List En->Option #[22])(gs:EnvD->Option (List En)):EnvD->Option #[22]:=λρ=>(gs ρ).bind λxs=>if xs.length=n then mi xs else none
def sSetO (i:Nat)(C:Addr)(g:EnvD->Option #[22]):SD:=λρ=>(g ρ).map λr=>.next (ρ.set i (some (.obw C r.1 r.2)))
def sFldO (i:Nat)(C:Addr)(fl:Str)(g:EnvD->Option D):SD:=λρ=>match ρ[i]? with
 |some (some (.obw C' fs ds))=>if C'=C/\fs.length < 900 then (g ρ).map λd=>.next (ρ.set i (some (.obw C (putZ fl d fs ds).1 (putZ fl d fs ds).2))) else none
 |_=>none
def sRetO (i:Nat):SD:=λρ=>match ρ[i]? with
 |some (some (.obw C fs ds))=>some (.ret (.val (.obj C fs ds)))
 |_=>none
section
variable {X:Cx}{B:Bs}{C f:Addr}{e:Expr}{es:List Expr}{x y fl:Str}{pos p pos':Pos}{k n i:Nat}{fd:FuncData}{ps:List Str}{gxs:EnvD->Option (List En)}{g:EnvD->Option #[22]}{gd:EnvD->Option D}
theorem RV {mi:List En->Option #[22]}{mi':Addr->Addr->List En->Option #[22]}(hmi:∀x dx xs,mi' x dx xs=mi xs)(M:Mk X.kw C f)(F:FnOk X.prog X.w X.kw X.mg X.base CX0 k f fd ps (iSp X.kw C n mi'))(hr:Room (k+1) X.A)(hg:Gl X x)(hm:X.mg x=some (.ref C))(hb:Binds X.kw fd ps [])
  (ha:DNs X B (e::es) gxs) (hdb:#[20]=false:=by decide) (he:starEach (e::es) X.env=(false,eval e X.env)::starEach es X.env:=by rfl) (hpl:#[24].any (·.1)=false:=by rfl) :
  DOb X B C #[26] (gMakeO n mi gxs) :=
 zt (Qi M F hr hg hm hb .nil pass0 ha hdb he hpl) λσ H Q ⟨F,ρ,d,r,hg,k⟩=>by
  unfold gMakeO at hg
  cases q:gxs ρ with
  |none=>rw[q] at hg;cases hg
  |some xs=>
   rw[q,Option.bind_some] at hg
   split at hg
   ·rename_i hl
    refine⟨F,ρ,xs,r,q,λvs F1 H1 e1 p1 x dx nx ndx nex=>?_⟩
    show iSp X.kw C n mi' (.ref x::(vs++[])) _ _ _
    rw[List.append_nil]
    refine⟨F1,H1,xs,x,dx,vs,d.1,d.2,rfl,nx,ndx,nex,rfl,e1.fh,hl,p1,by rw[hmi];exact hg,λF2 H2 us e2 h1 h2 h3 h4 h5=>⟨rfl,?_⟩⟩
    exact k _ F2 H2 (e1.trans e2) ⟨x,dx,us,rfl,e1.hh.free nx,h2,h3,h1,h4,h5.1,h5.2,e1.hh.free ndx⟩
   ·cases hg
theorem zfy {mi:List En->Option #[22]}(h:Kx X.prog X.w X.kw X.mg X.base C x k n mi)(hr:Room (k+1) X.A)(hg:Gl X x)(ha:DNs X B (e::es) gxs)(hdb:#[20]=false:=by decide +kernel)
  (he:starEach (e::es) X.env=(false,eval e X.env)::starEach es X.env:=by rfl) (hpl:#[24].any (·.1)=false:=by rfl):DOb X B C #[26] (gMakeO n mi gxs):=by
 obtain⟨f,fd,ps,mi',F,M,hm,hb,hmi⟩:=h.ex
 exact RV hmi M F hr hg hm hb ha hdb he hpl
theorem zbe (hN:X.N.Nodup)(hi:X.N[i]?=some y)(hx:Loc X.env.scope y)(he:DOb X B C e g)(hs:swapsWith e (some (.Name y pos')) pos.line X.env=pure false:=by rfl)(hf:X.fn y=true∨X.env.scope.names.lookup y=some .local:=by first | exact .inl rfl | exact .inr rfl | assumption) :
  DS X B (.Assign [.Name y pos'] e pos) (sSetO i C g):=zD (wk hN hi hx he hs hf) λE σ H ⟨F,ρ,fl,r,hg,k⟩=>by
 unfold sSetO at hg
 cases q:g ρ with
 |none=>rw[q] at hg;cases hg
 |some t=>
  rw[q] at hg;cases hg
  refine⟨F,ρ,t,r,q,λv F1 H1 e1 ⟨a,dx,vs,p0,p1,p2,p3,p4,p5,p6,p7,p8⟩=>?_⟩
  subst p0
  refine k _ F1 H1 ((r.ext e1).seto (x:=.obw C t.1 t.2) ⟨a,dx,vs,rfl,p2,p3,p4,r.ex.hh.free p1,p5,p6,p7,r.ex.hh.free p8⟩ ?_) e1.ff
  intro j z w hj hs _ b hb hc
  have:b=a:=by simpa[feetE] using hb
  subst this
  obtain⟨w',hw,hr⟩:=r.ents j z hj
  rw[hs] at hw;cases hw
  rw[hr.feet_ext e1.hh] at hc
  exact (hr.feet_at hc).1 p1
theorem zbj (i:Nat)(cl:Cls X.kw C)(na:NoAttr X.kw C fl)(hx:PE X #[11] (tVar i))(he:DE X B e gd)(hs:swapsWith e (some (.Attribute #[11] fl pos')) pos.line X.env=pure false:=by rfl) :
  DS X B (.Assign [.Attribute #[11] fl pos'] e pos) (sFldO i C fl gd) :=
 zD (Kq hx he hs) λE σ H ⟨F,ρ,f,r,hg,k⟩=>by
  unfold sFldO at hg
  split at hg
  ·rename_i C' fs ds q
   split at hg
   ·rename_i hc
    obtain⟨rfl,hlen⟩:=hc
    cases q2:gd ρ with
    |none=>rw[q2] at hg;cases hg
    |some d=>
     rw[q2] at hg
     cases hg
     refine⟨F,ρ,d,r,q2,λw F1 H1 e1 p1=>?_⟩
     have r1:=r.ext e1
     obtain⟨v,hv,a,dx,vs,rfl,g1,g2,g3,g4,g5,d1,d2,d3⟩:=r1.ents i _ q
     obtain⟨z1,z2⟩:=Zk (f:=fl) (v:=w) g2
     obtain⟨z3,z4⟩:=YL (f:=fl) p1 g2 g5
     refine⟨.ref a,hv,a,C',dx,_,rfl,g1,cl,na,?_,k σ F1 _ (r1.write q rfl hv g3 g4 ⟨a,dx,_,rfl,?_,?_,g3,g4,z4,by rw[zr (x6 d1 g1 (by intro z;cases z))];exact d1,d2,d3⟩ rfl) e1.ff⟩
     ·have:(fs.zip vs).length<=fs.length:=by rw[List.length_zip];exact Nat.min_le_left _ _
      omega
     ·rw[zy,z1,z3]
     ·rw[z3,z2]
   ·cases hg
  ·cases hg
theorem UD (i:Nat)(h:PE X #[11] (tVar i)):DS X B (.Return (some #[11]) pos) (sRetO i):=zD (v9 h) λE σ H ⟨F,ρ,fl,r,hg,k⟩=>by
 unfold sRetO at hg
 split at hg
 ·rename_i C fs ds q
  cases hg
  obtain⟨v,hv,a,dx,vs,rfl,g1,g2,g3,g4,g5,d1,d2,d3⟩:=r.ents i _ q
  exact⟨.ref a,hv,k (.ref a) _ H (r.ex.freeze g4 g3 g1) ⟨a,dx,vs,rfl,zy,g2,g5.mono (ye g3)⟩⟩
 ·cases hg
end
@[simp]theorem zi1 {n:Nat}{mi:List En->Option #[22]}{gs:EnvD->Option (List En)}{ρ:EnvD}:gMakeO n mi gs ρ=(gs ρ).bind λxs=>if xs.length=n then mi xs else none:=rfl
@[simp]theorem zlo {i:Nat}{C:Addr}{g:EnvD->Option #[22]}{ρ:EnvD}:sSetO i C g ρ=(g ρ).map λr=>.next (ρ.set i (some (.obw C r.1 r.2))):=rfl
@[simp]theorem zie {i:Nat}{C:Addr}{fl:Str}{g:EnvD->Option D}{ρ:EnvD}:sFldO i C fl g ρ=match ρ[i]? with
 |some (some (.obw C' fs ds))=>if C'=C/\fs.length < 900 then (g ρ).map λd=>.next (ρ.set i (some (.obw C (putZ fl d fs ds).1 (putZ fl d fs ds).2))) else none
 |_=>none:=rfl
@[simp]theorem zkc {i:Nat}{ρ:EnvD}:sRetO i ρ=match ρ[i]? with
 |some (some (.obw C fs ds))=>some (.ret (.val (.obj C fs ds)))
 |_=>none:=rfl
section
variable {X:Cx}{C:Addr}{T:String}{fd n x:Str}{ie:Nat}{p2 p3 pI pC pos:Pos}{b b1 b2 b3:Bool}{e1 e2:Expr}
theorem RH (xi:XI X.K C)(z:kitOne X.K (.ref C) (.type T)=some b)(hgI:Gl X "isinstance") (hmI:X.mg "isinstance" = none) (hgT:Gl X x) (hmT:X.mg x=none) (hvT:bootBuiltins x=some (.type T)) (hi:X.N[ie]?=some n) (hl:X.env.scope.names.lookup n=some .local)
  (d3:(n==("__debug__" : Str))=false:=by decide +kernel) (d4:(n==("__classdict__" : Str))=false:=by decide +kernel) (hnT:x ≠ "__name__" := by decide) (hdT:#[20]=false:=by decide)
  (he:starEach [.Name n p2,.Name x p3] X.env=(false,eval (.Name n p2) X.env)::starEach [.Name x p3] X.env:=by rfl) (he2:starEach [.Name x p3] X.env=(false,eval (.Name x p3) X.env)::starEach [] X.env:=by rfl) (hpl:(backTo pC (starEach [.Name x p3] X.env)).any (·.1)=false:=by rfl) :
  ItOk X C ie fd (.Call (.Name "isinstance" pI) [.Name n p2,.Name x p3] [] pC) (.isx b):=λea oe dd hc hd hf=>
 zt (u4 (X:=cxE X ea [(ea,oe)]) (US (fd:=fd) (b:=b) xi (List.mem_append_left _ (.head _)) hc hd hf z) hgI hmI #[13] (zW (YA hi (.inl hl) d3 d4) (zW (Vm hgT hmT hvT (v:=.ty T) rfl hnT hdT) yr he2) he) #[7] #[7] he hpl) λσ H Q ⟨e1,ed,q⟩=>⟨_,e1,rfl,ed,q⟩
theorem zbm (h1:ItOk X C ie fd e1 (.isx b1))(h2:ItOk X C ie fd e2 (.isx b2))(hb:(b1&&b2)=b3:=by rfl):ItOk X C ie fd (.BoolOp .And [e1,e2] pos) (.isx b3):=hb ▸ λea oe dd hc hd hf=>
 zt (Ky (h1 ea oe dd hc hd hf) (QC (h2 ea oe dd hc hd hf))) λσ H Q ⟨k1,k2,k3⟩=>by
  refine⟨k1,k2,b1,rfl,?_⟩
  cases b1 with
  |true=>exact⟨k1,k2,k3⟩
  |false=>exact k3
end
end Dv
namespace QM
variable {α:Type} [DecidableEq α]
abbrev Tk (α:Type):=α×Int
def PosQ (q:List (Tk α)):Prop:=∀t∈q,1<=t.2
def srv (m:Nat)(q:List (Tk α)):List α:=(q.take m).map (·.1)
def beh (m:Nat)(q:List (Tk α)):List (Tk α):=((q.take m).filter λt=>decide (1 < t.2)).map (λt=>(t.1,t.2 - 1))++q.drop m
theorem VQ {m:Nat}{q:List (Tk α)}(h:PosQ q):PosQ (beh m q):=by
 intro t ht
 unfold beh at ht
 rcases List.mem_append.mp ht with ht | ht
 ·obtain⟨u,hu,rfl⟩:=List.mem_map.mp ht
  have:=(List.mem_filter.mp hu).2
  simp at this
  show 1<=u.2 - 1
  omega
 ·exact h t (List.mem_of_mem_drop ht)
theorem Jn {m:Nat}{q:List (Tk α)}:(beh m q).length<=q.length:=by
 unfold beh
 rw[List.length_append,List.length_map,List.length_drop]
 have:=List.length_filter_le (λt:Tk α=>decide (1 < t.2)) (q.take m)
 rw[List.length_take] at this
 omega
theorem KD {m:Nat}{q:List (Tk α)}(P:α->Prop)(h:∀t∈q,P t.1):∀t∈beh m q,P t.1:=by
 intro t ht
 unfold beh at ht
 rcases List.mem_append.mp ht with ht | ht
 ·obtain⟨u,hu,rfl⟩:=List.mem_map.mp ht
  exact h u (List.mem_of_mem_take (List.mem_filter.mp hu).1)
 ·exact h t (List.mem_of_mem_drop ht)
def sumQ:List (Tk α)->Nat
 | []=>0
 |t::ts=>t.2.toNat+sumQ ts
theorem KL (p q:List (Tk α)):sumQ (p++q)=sumQ p+sumQ q:=by
 induction p with
 |nil=>simp[sumQ]
 |cons t ts ih=>simp only[List.cons_append,sumQ,ih];omega
theorem WL:∀(p:List (Tk α)),PosQ p->sumQ ((p.filter λt=>decide (1 < t.2)).map λt=>(t.1,t.2 - 1))+p.length=sumQ p
 | [],_=>rfl
 |t::ts,h=>by
  have ih:=WL ts λu hu=>h u (by simp[hu])
  have h1:1<=t.2:=h t (by simp)
  rw[List.filter_cons]
  by_cases h2:1 < t.2
  ·rw[if_pos (by simpa using h2)]
   simp only[List.map_cons,sumQ,List.length_cons]
   omega
  ·rw[if_neg (by simpa using h2)]
   simp only[sumQ,List.length_cons]
   omega
theorem VA {m:Nat}{q:List (Tk α)}(h:PosQ q):sumQ (beh m q)+min m q.length=sumQ q:=by
 have e:sumQ q=sumQ (q.take m)+sumQ (q.drop m):=by rw[<-KL,List.take_append_drop]
 have h1:=WL (q.take m) λt ht=>h t (List.mem_of_mem_take ht)
 rw[List.length_take] at h1
 unfold beh
 rw[KL]
 omega
theorem zdr {n:Nat}{b:Int}(q:List (Tk α))(hl:q.length<=n)(h:∀t∈q,t.2<=b):sumQ q<=n * b.toNat:=by
 have:∀q:List (Tk α),(∀t∈q,t.2<=b)->sumQ q<=q.length * b.toNat:=by
  intro q
  induction q with
  |nil=>intro _;simp[sumQ]
  |cons t ts ih=>
   intro hh
   have h1:=hh t (by simp)
   have h2:=ih λu hu=>hh u (by simp[hu])
   simp only[sumQ,List.length_cons,Nat.succ_mul]
   omega
 exact Nat.le_trans (this q h) (Nat.mul_le_mul_right _ hl)
def walk (f:Int->Int):Int->List (Tk α)->List (Int×List α)->Option (List (Tk α))
 |_,q,[]=>some q
 |due,q,r::rs=>if q=[]∨r.1≠due∨r.2≠srv (f due).toNat q then none else walk f (due+1) (beh (f due).toNat q) rs
end QM
namespace Dv
open PySem PySem.Spec L2 L3 L4 QM
open PyProof.Rows hiding St
def tkD (t:Str×Int):D:=.tup [.str t.1,.int t.2]
def rnD (r:Int×List Str):D:=.tup [.int r.1,.lst (r.2.map D.str)]
abbrev Ok (x:Str):Prop:=PyData.strOk x=true
theorem yT {α:Type}{f:α->D}:∀(l:List α),toPs (l.map f)=l.map λx=>toP (f x)
 | []=>rfl
 |x::l=>by simp[toPs,yT l]
theorem kj {α:Type} [DecidableEq α]{f:α->PyData}(hf:∀x y,PyData.eqv (f x) (f y)=decide (x=y)):∀(xs ys:List α),PyData.eqvAll (xs.map f) (ys.map f)=decide (xs=ys)
 | [],[]=>rfl
 | [],_::_=>rfl
 |_::_,[]=>rfl
 |x::xs,y::ys=>by
  show (PyData.eqv (f x) (f y)&&PyData.eqvAll (xs.map f) (ys.map f))=_
  rw[hf,kj hf xs ys]
  by_cases h1:x=y<;>by_cases h2:xs=ys<;>simp[h1,h2]
theorem xZ (x y:Str):PyData.eqv (.str x) (.str y)=decide (x=y):=by
 show (x==y)=_
 by_cases h:x=y
 ·subst h;simp
 ·simp[h]
theorem wY (x y:Int):PyData.eqv (.int x) (.int y)=decide (x=y):=by
 show (x==y)=_
 by_cases h:x=y
 ·subst h;simp
 ·simp[h]
theorem GU (xs ys:List Str):PyData.eqv (toP (.lst (xs.map D.str))) (toP (.lst (ys.map D.str)))=decide (xs=ys):=by
 show PyData.eqvAll (toPs (xs.map D.str)) (toPs (ys.map D.str))=_
 rw[yT,yT]
 exact kj (f:=PyData.str) xZ xs ys
theorem Gd (x y:Str×Int):PyData.eqv (toP (tkD x)) (toP (tkD y))=decide (x=y):=by
 show (PyData.eqv (.str x.1) (.str y.1)&&(PyData.eqv (.int x.2) (.int y.2)&&true))=_
 rw[xZ,wY]
 obtain⟨a,b⟩:=x
 obtain⟨c,d⟩:=y
 by_cases h1:a=c<;>by_cases h2:b=d<;>simp[h1,h2]
theorem GK (xs ys:List (Str×Int)):PyData.eqv (toP (.lst (xs.map tkD))) (toP (.lst (ys.map tkD)))=decide (xs=ys):=by
 show PyData.eqvAll (toPs (xs.map tkD)) (toPs (ys.map tkD))=_
 rw[yT,yT]
 exact kj (f:=λx=>toP (tkD x)) Gd xs ys
theorem RI (x y:Int×List Str):PyData.eqv (toP (rnD x)) (toP (rnD y))=decide (x=y):=by
 show (PyData.eqv (.int x.1) (.int y.1)&&(PyData.eqv (toP (.lst (x.2.map D.str))) (toP (.lst (y.2.map D.str)))&&true))=_
 rw[GU,wY]
 obtain⟨a,b⟩:=x
 obtain⟨c,d⟩:=y
 by_cases h1:a=c<;>by_cases h2:b=d<;>simp[h1,h2]
theorem zgv (xs ys:List #[17]):PyData.eqv (toP (.lst (xs.map rnD))) (toP (.lst (ys.map rnD)))=decide (xs=ys):=by
 show PyData.eqvAll (toPs (xs.map rnD)) (toPs (ys.map rnD))=_
 rw[yT,yT]
 exact kj (f:=λx=>toP (rnD x)) RI xs ys
theorem WV {α:Type}{f:α->PyData}:∀(xs:List α),(∀x∈xs,PyData.canLay0 (f x)=true)->PyData.canLayAll0 (xs.map f)=true
 | [],_=>rfl
 |x::xs,h=>by
  show (PyData.canLay0 (f x)&&PyData.canLayAll0 (xs.map f))=true
  rw[h x (by simp),WV xs λy hy=>h y (by simp[hy])];rfl
theorem KI {α:Type}{f:α->PyData}{n:Nat}:∀(xs:List α),(∀x∈xs,PyData.depth (f x)<=n)->PyData.depthAll (xs.map f)<=n
 | [],_=>Nat.zero_le _
 |x::xs,h=>by
  have h1:=h x (by simp)
  have h2:=KI xs λy hy=>h y (by simp[hy])
  show max (PyData.depth (f x)) (PyData.depthAll (xs.map f))<=n
  omega
def Lay (n:Nat)(d:D):Prop:=(toP d).canLay0=true/\(toP d).depth<=n
theorem Lay.ok {n:Nat}{d:D}(h:Lay n d)(hn:n<=64):eqOk d=true:=by
 unfold eqOk SeqAt.shaped
 rw[h.1]
 simpa using Nat.le_trans h.2 hn
theorem Wy {i:Int}:Lay 0 (.int i):=⟨rfl,Nat.le_refl _⟩
theorem Yi {x:Str}(h:Ok x):Lay 0 (.str x):=⟨h,Nat.le_refl _⟩
theorem YC {α:Type}{f:α->D}{n:Nat}{xs:List α}(h:∀x∈xs,Lay n (f x)):Lay (n+1) (.lst (xs.map f)):=by
 refine⟨?_,?_⟩
 ·show PyData.canLayAll0 (toPs (xs.map f))=true
  rw[yT];exact WV xs λx hx=>(h x hx).1
 ·show PyData.depthAll (toPs (xs.map f))+1<=n+1
  rw[yT]
  exact Nat.succ_le_succ (KI xs λx hx=>(h x hx).2)
theorem zbs {t:Str×Int}(h:Ok t.1):Lay 1 (tkD t):=by
 refine⟨?_,?_⟩
 ·show (PyData.canLay0 (.str t.1)&&(PyData.canLay0 (.int t.2)&&true))=true
  rw[show PyData.canLay0 (.str t.1)=true from h];rfl
 ·show max 0 (max 0 0)+1<=1;omega
theorem GE {xs:List Str}(h:∀x∈xs,Ok x):Lay 1 (.lst (xs.map D.str)):=YC λx hx=>Yi (h x hx)
theorem Qy {q:List (Str×Int)}(h:∀t∈q,Ok t.1):Lay 2 (.lst #[6]):=YC λt ht=>zbs (h t ht)
theorem G1 {r:Int×List Str}(h:∀x∈r.2,Ok x):Lay 2 (rnD r):=by
 obtain⟨h1,h2⟩:=GE h
 refine⟨?_,?_⟩
 ·show (PyData.canLay0 (.int r.1)&&((toP (.lst (r.2.map D.str))).canLay0&&true))=true
  rw[h1];rfl
 ·show max 0 (max ((toP (.lst (r.2.map D.str))).depth) 0)+1<=2;omega
theorem zcu {rs:List #[17]}(h:∀r∈rs,∀x∈r.2,Ok x):Lay 3 (.lst (rs.map rnD)):=YC λr hr=>G1 (h r hr)
theorem j4 {neg:Bool}{x y:D}{n m:Nat}{b:Bool}(hx:Lay n x)(hy:Lay m y)(hn:n<=64)(hm:m<=64)(e:PyData.eqv (toP x) (toP y)=b):fEq neg x y=some (.bl (if neg then !b else b)):=by
 unfold fEq eqD
 rw[hx.ok hn,hy.ok hm,e];rfl
theorem VC {neg:Bool}{xs ys:List (Str×Int)}(hx:∀x∈xs,Ok x.1)(hy:∀x∈ys,Ok x.1):fEq neg (.lst (xs.map tkD)) (.lst (ys.map tkD))=some (.bl (if neg then !decide (xs=ys) else decide (xs=ys))) :=
 j4 (Qy hx) (Qy hy) #[7] #[7] (GK xs ys)
theorem zar {neg:Bool}{xs:List (Str×Int)}(hx:∀x∈xs,Ok x.1):fEq neg (.lst (xs.map tkD)) (.lst [])=some (.bl (if neg then !decide (xs=[]) else decide (xs=[]))):=VC (ys:=[]) hx (by simp)
end Dv
namespace QM
variable {α:Type} [DecidableEq α]
inductive Run (f:Int->Int):Int->List (Tk α)->List (Int×List α)->Prop
 |nil (x:Int):Run f x [] []
 |cons {x:Int} {q:List (Tk α)} {rs:List (Int×List α)}:q≠[]->Run f (x+1) (beh (f x).toNat q) rs->Run f x q ((x,srv (f x).toNat q)::rs)
variable {f:Int->Int}{x:Int}{q q':List (Tk α)}{rows rows' tl:List (Int×List α)}{v:α}
def nms (q:List (Tk α)):List α:=q.map (·.1)
theorem Ko:∀ {a tl:List (Int×List α)} {x:Int} {q:List (Tk α)},Run f x q (a++tl)->∃q',walk f x q a=some q'/\Run f (x+a.length) q' tl
 | [],tl,x,q,h=>⟨q,rfl,by simpa using h⟩
 |r::a,tl,x,q,h=>by
  rw[List.cons_append] at h
  cases h with
  |cons hq hr=>
   obtain⟨q',e1,e2⟩:=Ko hr
   refine⟨q',?_,?_⟩
   ·simp only[walk]
    rw[if_neg (by simp[hq])]
    exact e1
   ·have:x+1+(a.length:Int)=x+((((x,srv (f x).toNat q)::a).length:Nat):Int):=by simp;omega
    rw[<-this];exact e2
theorem KK:∀ {rows:List (Int×List α)} {x:Int} {q:List (Tk α)},Run f x q rows->∀r∈rows,x<=r.1/\r.1 < x+rows.length
 |_,x,_,.nil _,r,hr=>by cases hr
 |_,x,_,.cons (rs:=rs) hq h,r,hr=>by
  rcases List.mem_cons.mp hr with rfl | hr
  ·simp;omega
  ·have:=KK h r hr
   simp;omega
theorem leave {m:Nat}{q:List (Tk α)}(hv:v∈nms q)(hn:v∉nms (beh m q)):v∈srv m q:=by
 obtain⟨t,ht,rfl⟩:=List.mem_map.mp hv
 rw[<-List.take_append_drop m q] at ht
 rcases List.mem_append.mp ht with ht | ht
 ·exact List.mem_map.mpr ⟨t,ht,rfl⟩
 ·exfalso
  apply hn
  unfold nms beh
  rw[List.map_append]
  exact List.mem_append.mpr (.inr (List.mem_map.mpr ⟨t,ht,rfl⟩))
theorem J2:∀ {rows:List (Int×List α)} {x:Int} {q:List (Tk α)},Run f x q rows->v∈nms q->∃r∈rows,v∈r.2
 |_,_,_,.nil _,hv=>by cases hv
 |_,_,_,.cons (x:=x) (q:=q) hq h,hv=>by
  by_cases hn:v∈nms (beh (f x).toNat q)
  ·obtain⟨r,h1,h2⟩:=J2 h hn
   exact⟨r,List.mem_cons_of_mem _ h1,h2⟩
  ·exact⟨_,List.mem_cons_self,leave hv hn⟩
end QM
namespace Dv
open PySem PySem.Spec L2 L3 L4 QM
open PyProof.Rows hiding St
def mk (l:List Nat):Str:=⟨l.toArray⟩
theorem zf7 {a b:List Nat}(h:mk a=mk b):a=b:=by
 have:a.toArray=b.toArray:=congrArg Str.cps h
 simpa using this
theorem ko (a b:List Nat):mk a++mk b=mk (a++b):=by
 show (⟨a.toArray++b.toArray⟩:Str)=⟨(a++b).toArray⟩
 simp
theorem w9 (l:List Nat):(mk l).length=l.length:=by simp[mk,Str.length]
theorem Gi {l:List Nat}{a:Int}(h:l.length<=TOP)(h1:0<=a)(h2:a < l.length):fItem (.str (mk l)) (.int a)=some (.str (mk [l.getD a.toNat 0])):=by
 rw[Qu,if_pos (by rw[w9];exact h)]
 obtain⟨v,e1,e2⟩:=Vl (xs:=l) h1 h2
 have e3:l.getD a.toNat 0=v:=by rw[List.getD_eq_getElem?_getD,e2];rfl
 rw[e3,show (mk l).cps.toList=l by simp[mk],e1]
 rfl
theorem zgx {l:List Nat}{k:Int}(h1:0<=k)(h2:k<=l.length):Txt.slice (mk l) none (some k)=mk (l.take k.toNat):=by
 have e:=slice_closes_to (x:=mk l) (j:=k) ⟨h1,by simp[mk];exact h2⟩
 have e:=eq_of_beq e
 rw[e]
 simp[mk]
def SIGNS:Str := "abcdefghijklmnopqrstuvwxyz0123456789"
def S36:List Nat:=[97,98,99,100,101,102,103,104,105,106,107,108,109,110,111,112,113,114,115,116,117,118,119,120,121,122,48,49,50,51,52,53,54,55,56,57]
theorem G3:SIGNS=mk S36:=by decide +kernel
def sg (a:Int):Nat:=S36.getD a.toNat 0
theorem Zp {a:Int}(h1:0<=a)(h2:a < 36):fItem (.str SIGNS) (.int a)=some (.str (mk [sg a])):=by
 rw[G3]
 have hl:(S36.length:Int)=36:=by decide
 exact Gi #[7] h1 #[1]
theorem KQ {a:Int}(h1:0<=a)(h2:a < 36):sg a∈S36:=by
 unfold sg
 have hl:S36.length=36:=by decide
 have:a.toNat < S36.length:=by omega
 rw[List.getD_eq_getElem?_getD,List.getElem?_eq_getElem this]
 exact List.getElem_mem _
theorem Kr {a:Int}(h1:0<=a)(h2:a < 26):sg a∈S36.take 26:=by
 unfold sg
 have hl:(S36.take 26).length=26:=by decide
 have h3:a.toNat < (S36.take 26).length:=by omega
 have e:S36.getD a.toNat 0=(S36.take 26)[a.toNat]:=by
  rw[List.getD_eq_getElem?_getD]
  have:S36[a.toNat]?=(S36.take 26)[a.toNat]?:=by rw[List.getElem?_take];rw[if_pos #[1]]
  rw[this,List.getElem?_eq_getElem h3];rfl
 rw[e]
 exact List.getElem_mem _
theorem zdp {a b:Int}(h1:0<=a)(h2:a < 36)(h3:0<=b)(h4:b < 36)(e:sg a=sg b):a=b:=by
 unfold sg at e
 have hl:S36.length=36:=by decide
 have ha:a.toNat < S36.length:=by omega
 have hb:b.toNat < S36.length:=by omega
 rw[List.getD_eq_getElem?_getD,List.getD_eq_getElem?_getD,List.getElem?_eq_getElem ha,List.getElem?_eq_getElem hb] at e
 have nd:S36.Nodup:=by decide +kernel
 have:=(List.getElem_inj nd).mp e
 omega
def NameOk (x:Str):Prop:=∃c cs,x=mk (c::cs)/\c∈S36.take 26/\(∀d∈cs,d∈S36)/\cs.length<=7
theorem RR {l:List Nat}(h:∀d∈l,d∈S36):Ok (mk l):=by
 show (mk l).cps.all (· < 0x110000)=true
 rw[Array.all_eq_true']
 intro c hc
 have hc:c∈l:=by simpa[mk] using hc
 have:=h c hc
 have all:S36.all (λc=>decide (c < 0x110000))=true:=by decide
 exact List.all_eq_true.mp all c this
theorem NameOk.ok {x:Str}(h:NameOk x):Ok x:=by
 obtain⟨c,cs,rfl,h1,h2,_⟩:=h
 exact RR λd hd=>by
  rcases List.mem_cons.mp hd with rfl | hd
  ·exact List.mem_of_mem_take h1
  ·exact h2 d hd
end Dv
namespace HM
abbrev Row:=Int×Int
def Pos (l:List Row):Prop:=∀r∈l,0 < r.1/\0<=r.2
def atR (rest:Int):List Row->Int->Int
 | [],_=>rest
 |r::rs,x=>if x < r.1 then r.2 else atR rest rs (x - r.1)
def bareR (first last:Int):List Row->Int->Option Int
 | [],_=>none
 |r::rs,b=>if r.2=0/\max b first < b+r.1/\max b first<=last then some (max b first) else bareR first last rs (b+r.1)
def total:List Row->Int
 | []=>0
 |r::rs=>r.1+total rs
def nextC (rest:Int):List Row->Int
 | []=>rest
 |r::_=>r.2
def kstep (acc:List Row)(r:Row):List Row:=match acc.getLast? with
 |some q=>if q.2=r.2 then acc.dropLast++[(q.1+r.1,r.2)] else acc++[r]
 |none=>acc++[r]
def kend (rest:Int)(k:List Row):List Row:=match k.getLast? with
 |some q=>if q.2=rest then k.dropLast else k
 |none=>k
def krows (rest:Int)(rs:List Row):List Row:=kend rest (rs.foldl kstep [])
def Norm (rest:Int):List Row->Prop
 | []=>True
 |r::rs=>nextC rest rs≠r.2/\Norm rest rs
theorem Pos.app {l m:List Row}:Pos (l++m)↔Pos l/\Pos m:=by
 constructor
 ·intro h;exact⟨λr hr=>h r (by simp[hr]),λr hr=>h r (by simp[hr])⟩
 ·intro ⟨h1,h2⟩ r hr
  rcases List.mem_append.mp hr with h | h
  ·exact h1 r h
  ·exact h2 r h
theorem Pos.cons {r:Row}{m:List Row}:Pos (r::m)↔(0 < r.1/\0<=r.2)/\Pos m:=by
 constructor
 ·intro h;exact⟨h r (by simp),λq hq=>h q (by simp[hq])⟩
 ·intro ⟨h1,h2⟩ q hq
  rcases List.mem_cons.mp hq with rfl | h
  ·exact h1
  ·exact h2 q h
theorem Pos.nil:Pos []:=λ_ h=>by cases h
def Inv (acc:List Row):Prop:=acc=[]∨∃pre a c,acc=pre++[(a,c)]/\Norm c pre
structure Same {α:Type}(rest:Int)(Φ:List Row->α):Prop where
 merge:∀pre a b c tl,Pos pre->Pos tl->0 < a->0 < b->Φ (pre++(a,c)::(b,c)::tl)=Φ (pre++(a+b,c)::tl)
 drop:∀pre a,Pos pre->0 < a->Φ (pre++[(a,rest)])=Φ pre
theorem qp {α:Type}{rest:Int}{Φ:List Row->α}(S:Same rest Φ):∀(rs acc:List Row),Pos acc->Pos rs->Φ (rs.foldl kstep acc)=Φ (acc++rs)/\Pos (rs.foldl kstep acc)
 | [],acc,h,_=>by simp[h]
 |r::rs,acc,h,hr=>by
  obtain⟨h1,h2⟩:=Pos.cons.mp hr
  rcases List.eq_nil_or_concat acc with rfl | ⟨pre,q,rfl⟩
  ·obtain⟨e,p⟩:=qp S rs [r] (Pos.cons.mpr ⟨h1,Pos.nil⟩) h2
   exact⟨by simpa[kstep] using e,by simpa[kstep] using p⟩
  ·rw[List.concat_eq_append] at h ⊢
   obtain⟨hp,hq⟩:=Pos.app.mp h
   have hq:=(Pos.cons.mp hq).1
   have hk:kstep (pre++[q]) r=if q.2=r.2 then pre++[(q.1+r.1,r.2)] else pre++[q]++[r]:=by
    unfold kstep;rw[List.getLast?_concat];simp only[List.dropLast_concat]
   rw[List.foldl_cons,hk]
   by_cases e:q.2=r.2
   ·rw[if_pos e]
    obtain⟨e1,p⟩:=qp S rs (pre++[(q.1+r.1,r.2)]) (Pos.app.mpr ⟨hp,Pos.cons.mpr ⟨⟨by show 0 < q.1+r.1;omega,h1.2⟩,Pos.nil⟩⟩) h2
    refine⟨?_,p⟩
    rw[e1]
    have:=S.merge pre q.1 r.1 r.2 rs hp h2 hq.1 h1.1
    have hq':q=(q.1,r.2):=by rw[<-e]
    rw[hq']
    simpa using this.symm
   ·rw[if_neg e]
    obtain⟨e1,p⟩:=qp S rs (pre++[q]++[r]) (Pos.app.mpr ⟨h,Pos.cons.mpr ⟨h1,Pos.nil⟩⟩) h2
    exact⟨by rw[e1];simp,p⟩
theorem JO {α:Type}{rest:Int}{Φ:List Row->α}(S:Same rest Φ)(rs:List Row)(h:Pos rs):Φ (krows rest rs)=Φ rs:=by
 obtain⟨e,p⟩:=qp S rs [] Pos.nil h
 rw[List.nil_append] at e
 rw[<-e]
 unfold krows kend
 rcases List.eq_nil_or_concat (rs.foldl kstep []) with h0 | ⟨pre,q,h0⟩
 ·rw[h0];rfl
 ·rw[List.concat_eq_append] at h0
  rw[h0] at p ⊢
  rw[List.getLast?_concat]
  simp only[List.dropLast_concat]
  by_cases c:q.2=rest
  ·rw[if_pos c]
   obtain⟨hp,hq⟩:=Pos.app.mp p
   have hq':q=(q.1,rest):=by rw[<-c]
   rw[hq']
   exact (S.drop pre q.1 hp (Pos.cons.mp hq).1.1).symm
  ·rw[if_neg c]
theorem u7 (rest:Int)(rs:List Row)(h:Pos rs):Pos (krows rest rs):=by
 obtain⟨_,p⟩:=qp (rest:=rest) (Φ:=λ_=>()) ⟨λ_ _ _ _ _ _ _ _ _=>rfl,λ_ _ _ _=>rfl⟩ rs [] Pos.nil h
 unfold krows kend
 rcases List.eq_nil_or_concat (rs.foldl kstep []) with h0 | ⟨pre,q,h0⟩
 ·rw[h0];exact Pos.nil
 ·rw[List.concat_eq_append] at h0
  rw[h0] at p ⊢
  rw[List.getLast?_concat]
  simp only[List.dropLast_concat]
  by_cases c:q.2=rest
  ·rw[if_pos c];exact (Pos.app.mp p).1
  ·rw[if_neg c];exact p
theorem ZE (acc:List Row)(r:Row):(kstep acc r).length<=acc.length+1:=by
 unfold kstep
 split
 ·split
  ·simp
  ·simp
 ·simp
theorem W0:∀(rs acc:List Row),(rs.foldl kstep acc).length<=acc.length+rs.length
 | [],acc=>by simp
 |r::rs,acc=>by
  have h1:=W0 rs (kstep acc r)
  have h2:=ZE acc r
  rw[List.foldl_cons];simp only[List.length_cons];omega
theorem Z6 (rest:Int)(rs:List Row):(krows rest rs).length<=rs.length:=by
 have:=W0 rs []
 simp only[List.length_nil,Nat.zero_add] at this
 unfold krows kend
 split
 ·split
  ·simp;omega
  ·exact this
 ·exact this
theorem Qk (rest x:Int):Same rest λl=>atR rest l x:=by
 refine⟨λpre a b c tl hp ht ha hb=>?_,λpre a hp ha=>?_⟩
 ·show atR rest _ x=atR rest _ x
  induction pre generalizing x with
  |nil=>
   simp only[List.nil_append,atR]
   by_cases h:x < a
   ·rw[if_pos h,if_pos #[1]]
   ·rw[if_neg h]
    by_cases h2:x - a < b
    ·rw[if_pos h2,if_pos #[1]]
    ·rw[if_neg h2,if_neg #[1]];congr 1;omega
  |cons r rs ih=>simp only[List.cons_append,atR];rw[ih _ (Pos.cons.mp hp).2]
 ·show atR rest _ x=atR rest _ x
  induction pre generalizing x with
  |nil=>simp only[List.nil_append,atR];split<;>rfl
  |cons r rs ih=>simp only[List.cons_append,atR];rw[ih _ (Pos.cons.mp hp).2]
theorem Kw:∀ {l:List Row},Pos l->0<=total l
 | [],_=>Int.le_refl _
 |q::qs,hq=>by have:=Kw (Pos.cons.mp hq).2;have:=(Pos.cons.mp hq).1.1;simp only[total];omega
theorem Yl:∀(l m:List Row),total (l++m)=total l+total m
 | [],m=>by simp[total]
 |r::rs,m=>by simp only[List.cons_append,total,Yl rs m];omega
end HM
namespace Dv
open PySem PySem.Spec L2 L3 L4 QM
open PyProof.Rows hiding St
abbrev SI:=List (Str×Int)
def kv (q:SI):List (Key×D):=q.map λt=>(.inr t.1,.int t.2)
def lookS (q:SI)(x:Str):Option Int:=(q.find? λt=>decide (t.1=x)).map (·.2)
def putS (q:SI)(x:Str)(v:Int):SI:=if (q.any λt=>decide (t.1=x))=true then q.map (λt=>if t.1=x then (t.1,v) else t) else q++[(x,v)]
theorem YG (q:SI):(kv q).length=q.length:=by simp[kv]
theorem xG (x:Str):∀q:SI,lookD (kv q) (.inr x)=(lookS q x).map D.int
 | []=>rfl
 |t::q=>by
  have ih:=xG x q
  unfold lookD lookS kv at ih ⊢
  by_cases h:t.1=x
  ·simp[h]
  ·simp[h] at ih ⊢;exact ih
theorem za8 (x:Str)(q:SI):((kv q).any λp=>decide (p.1=.inr x))=(q.any λt=>decide (t.1=x)):=by
 induction q with
 |nil=>rfl
 |cons t q ih=>
  show (decide ((Sum.inr t.1:Key)=.inr x)||_)=_
  rw[List.any_cons]
  unfold kv at ih
  rw[ih]
  congr 1
  by_cases h:t.1=x<;>simp[h]
theorem kZ (x:Str)(v:Int)(q:SI):putD (kv q) (.inr x) (.int v)=kv (putS q x v):=by
 unfold putD putS
 rw[za8]
 split
 ·unfold kv
  rw[List.map_map,List.map_map]
  refine List.map_congr_left λt _=>?_
  by_cases h:t.1=x<;>simp[h]
 ·simp[kv]
def kiS (q:SI):List (Key×Int):=q.map λt=>(.inr t.1,t.2)
theorem Vk:∀q:SI,asKI (kv q)=some (kiS q)
 | []=>rfl
 |t::q=>by
  show (asKI (kv q)).map _=_
  rw[Vk q];rfl
def keysS (q:SI):List Str:=q.map (·.1)
theorem zet (x:Str)(v:Int)(q:SI):keysS (putS q x v)=if x∈keysS q then keysS q else keysS q++[x]:=by
 have ha:(q.any λt=>decide (t.1=x))=true↔x∈keysS q:=by
  simp[keysS,List.any_eq_true]
 unfold putS
 by_cases h:x∈keysS q
 ·rw[if_pos (ha.mpr h),if_pos h]
  unfold keysS
  rw[List.map_map]
  refine List.map_congr_left λt _=>?_
  by_cases e:t.1=x<;>simp[e]
 ·rw[if_neg (λz=>h (ha.mp z)),if_neg h]
  simp[keysS]
theorem Vq {x:Str}{v:Int}{q:SI}(h:(keysS q).Nodup):(keysS (putS q x v)).Nodup:=by
 rw[zet]
 split
 ·exact h
 ·rename_i hx
  rw[List.nodup_append]
  exact⟨h,by simp,λa ha b hb=>by rw[List.mem_singleton.mp hb];exact λz=>hx (z ▸ ha)⟩
theorem jG (x:Str)(v:Int)(q:SI):(putS q x v).length<=q.length+1:=by
 unfold putS
 split<;>simp
theorem ze3 {q:SI}{x:Str}{v:Int}(nd:(keysS q).Nodup)(h:(x,v)∈q):lookS q x=some v:=by
 induction q with
 |nil=>cases h
 |cons t q ih=>
  have nd':=List.nodup_cons.mp nd
  rcases List.mem_cons.mp h with e | h
  ·subst e;simp[lookS]
  ·have hne:t.1≠x:=λz=>nd'.1 (List.mem_map.mpr ⟨(x,v),h,z.symm⟩)
   have:=ih nd'.2 h
   unfold lookS at this ⊢
   rw[List.find?_cons]
   simp[hne]
   simpa using this
theorem V6 (x:Str):∀q:SI,lookI (kiS q) (.inr x)=lookS q x
 | []=>rfl
 |t::q=>by
  have ih:=V6 x q
  unfold lookI lookS kiS at ih ⊢
  by_cases h:t.1=x
  ·simp[h]
  ·simp[h] at ih ⊢;exact ih
theorem KP {q:SI}(nd:(keysS q).Nodup):∀r:SI,(∀t∈r,t∈q)->hitsI (kiS q) (kiS r)=true
 | [],_=>rfl
 |t::r,h=>by
  show (match lookI (kiS q) (.inr t.1) with | none=>false | some j=>decide (t.2=j)&&hitsI (kiS q) (kiS r))=true
  rw[V6,ze3 nd (h t List.mem_cons_self)]
  simp[KP nd r λu hu=>h u (List.mem_cons_of_mem _ hu)]
theorem U1 {q:SI}(nd:(keysS q).Nodup):eqI (kiS q) (kiS q)=true:=by
 unfold eqI
 simp[KP nd q λt h=>h]
theorem j9 (t:Str×Int)(d:SI)(x:Str):lookS (t::d) x=if t.1=x then some t.2 else lookS d x:=by
 unfold lookS
 by_cases h:t.1=x<;>simp[h]
theorem zbk {d:SI}{x:Str}{v:Int}(h:x∈keysS d):putS d x v=d.map λt=>if t.1=x then (t.1,v) else t:=by
 unfold putS
 rw[if_pos]
 simpa[keysS,List.any_eq_true] using h
theorem zd1 {d:SI}{x:Str}{v:Int}(h:x∉keysS d):(d.map λt=>if t.1=x then (t.1,v) else t)=d:=by
 induction d with
 |nil=>rfl
 |cons t d ih=>
  simp[keysS] at h
  have:t.1≠x:=λz=>h.1 z.symm
  simp[this]
  have:=ih (by simpa[keysS] using h.2)
  simpa using this
end Dv
namespace QM
variable {α:Type} [DecidableEq α]
inductive Eas:List (Tk α)->List (Tk α)->Prop
 |nil:Eas [] []
 |skip {t:Tk α} {p q:List (Tk α)}:Eas p q->Eas p (t::q)
 |keep {n:α} {a b:Int} {p q:List (Tk α)}:b<=a->Eas p q->Eas ((n,b)::p) ((n,a)::q)
def val (q:List (Tk α))(n:α):Int:=((q.find? λt=>decide (t.1=n)).map (·.2)).getD 0
variable {f g:Int->Int}
end QM
namespace Dv
open PySem PySem.Spec L2 L3 L4 QM
open PyProof.Rows hiding St
theorem zfv {d:SI}{x:Str}{v:Int}(h:x∉keysS d):putS d x v=d++[(x,v)]:=by
 unfold putS
 rw[if_neg]
 intro z
 apply h
 simpa[keysS,List.any_eq_true] using z
def endsS (d:SI)(rows:List #[17]):SI:=rows.foldl (λd r=>r.2.foldl (λd n=>putS d n r.1) d) d
theorem zee (d:SI)(x y:Str)(v:Int):lookS (putS d x v) y=if x=y then some v else lookS d y:=by
 by_cases hx:x∈keysS d
 ·rw[zbk hx]
  induction d with
  |nil=>cases hx
  |cons t d ih=>
   rw[List.map_cons,j9,j9]
   by_cases e:t.1=x
   ·rw[if_pos e]
    by_cases e2:x=y
    ·simp[e,e2]
    ·have:¬t.1=y:=λz=>e2 (e.symm.trans z)
     simp only[if_neg e2,if_neg this]
     by_cases hx':x∈keysS d
     ·rw[ih hx',if_neg e2]
     ·rw[zd1 hx']
   ·rw[if_neg e]
    have hx':x∈keysS d:=by simpa[keysS,Ne.symm e] using hx
    rw[ih hx']
    by_cases e2:x=y
    ·have:¬t.1=y:=λz=>e (z.trans e2.symm)
     simp[e2,this]
    ·simp[e2]
 ·rw[zfv hx]
  have:∀d:SI,x∉keysS d->lookS (d++[(x,v)]) y=if x=y then some v else lookS d y:=by
   intro d
   induction d with
   |nil=>intro _;simp[j9]
   |cons t d ih=>
    intro h
    have h1:¬x=t.1/\x∉keysS d:=by simpa[keysS] using h
    rw[List.cons_append,j9,j9,ih h1.2]
    by_cases e2:x=y
    ·have:¬t.1=y:=λz=>h1.1 (e2.trans z.symm)
     simp[e2,this]
    ·simp[e2]
  exact this d hx
theorem um (v:Int)(y:Str):∀(xs:List Str) (d:SI),lookS (xs.foldl (λd n=>putS d n v) d) y=if y∈xs then some v else lookS d y
 | [],d=>by simp
 |x::xs,d=>by
  show lookS (xs.foldl (λd n=>putS d n v) (putS d x v)) y=_
  rw[um v y xs,zee]
  by_cases h1:y∈xs
  ·simp[h1]
  ·by_cases h2:x=y
   ·simp[h1,h2]
   ·have:¬y=x:=λz=>h2 z.symm
    simp[h1,h2,this]
theorem Qb:∀(rows:List #[17]) (d:SI) (n:Str) (L:Int),lookS (endsS d rows) n=some L->lookS d n=some L∨∃r∈rows,n∈r.2/\r.1=L
 | [],d,n,L,h=>.inl h
 |r::rows,d,n,L,h=>by
  rcases Qb rows _ n L h with h | ⟨u,h1,h2⟩
  ·rw[um] at h
   split at h
   ·rename_i hn
    exact .inr ⟨r,List.mem_cons_self,hn,Option.some.inj h⟩
   ·exact .inl h
  ·exact .inr ⟨u,List.mem_cons_of_mem _ h1,h2⟩
theorem WN:∀(rows:List #[17]) (d:SI) (n:Str),(∃v,lookS d n=some v)->∃L,lookS (endsS d rows) n=some L
 | [],d,n,h=>h
 |r::rows,d,n,⟨v,h⟩=>by
  refine WN rows _ n ?_
  rw[um]
  split
  ·exact⟨_,rfl⟩
  ·exact⟨v,h⟩
theorem zby (a b:List #[17])(d:SI):endsS d (a++b)=endsS (endsS d a) b:=by unfold endsS;rw[List.foldl_append]
theorem zc2 {f:Int->Int}{x:Int}{q:SI}{rows:List #[17]}(h:Run f x q rows){r:Int×List Str}(hr:r∈rows){n:Str}(hn:n∈r.2)(d:SI):∃L,lookS (endsS d rows) n=some L/\r.1<=L:=by
 obtain⟨a,b,rfl⟩:=List.append_of_mem hr
 obtain⟨q',_,h2⟩:=Ko h
 have hb:∀u∈b,r.1<=u.1:=by
  intro u hu
  cases h2 with
  |cons hq h3=>
   have:=(KK h3 u hu).1
   show x+a.length<=u.1
   omega
 rw[zby]
 show ∃L,lookS (endsS (r.2.foldl (λd n=>putS d n r.1) (endsS d a)) b) n=some L/\r.1<=L
 have h0:lookS (r.2.foldl (λd n=>putS d n r.1) (endsS d a)) n=some r.1:=by rw[um,if_pos hn]
 obtain⟨L,hL⟩:=WN b _ n ⟨_,h0⟩
 refine⟨L,hL,?_⟩
 rcases Qb b _ n L hL with z | ⟨u,u1,_,u3⟩
 ·rw[h0] at z;cases z;exact Int.le_refl _
 ·have:=hb u u1;omega
variable {f:Int->Int}
def ra (f:Int->Int):Int->SI->Nat->List #[17]
 |_,_,0=>[]
 |x,A,k+1=>(x,srv (f x).toNat A)::ra f (x+1) (beh (f x).toNat A) k
def hb (rows:List #[17])(n:Str)(t:Int):Nat:=(rows.filter λr=>decide (r.1<=t)&&decide (n∈r.2)).length
end Dv
namespace Dv
open PySem PySem.Spec L2 L3 L4
open PyProof.Rows hiding St
section
variable {i:Nat}{g:EnvD->Option D}{gl gi:EnvD->Option #[3]}{gk:EnvD->Option (List (Key×D))}{gb:EnvD->Option Bool}{b s1 s2:SD}{ρ ρ':EnvD}{d:D}{ds:List D}{kvs:List (Key×D)}{r:Option Fl}{t:Tgt}
theorem V1 (h:gb ρ=some false)(k:b ρ=r):sSeq (sIf gb s1 sNext) b ρ=r:=by
 rw[<-k]
 show thenB ((gb ρ).bind λc=>if c then s1 ρ else sNext ρ) b=_
 rw[h];rfl
end
end Dv
namespace QX
open PySem PySem.StrLaws PySem.Builtin PySem.Builtin.Str
end QX
namespace QX
end QX
namespace HM
def NN (l:List Row):Prop:=∀r∈l,0<=r.1
def fil (l:List Row):List Row:=l.filter λr=>decide (0 < r.1)
theorem Kl {rest:Int}:∀(l:List Row) (x:Int),NN l->0<=x->atR rest (fil l) x=atR rest l x
 | [],_,_,_=>rfl
 |r::rs,x,h,hx=>by
  have h1:=h r (by simp)
  have ih:=λy hy=>Kl (rest:=rest) rs y (λq hq=>h q (by simp[hq])) hy
  unfold fil at ih ⊢
  by_cases c:0 < r.1
  ·rw[List.filter_cons_of_pos (by simpa using c)]
   simp only[atR]
   by_cases d:x < r.1
   ·simp[d]
   ·simp only[d,if_false];exact ih _ #[1]
  ·rw[List.filter_cons_of_neg (by simpa using c)]
   have:r.1=0:=by omega
   have d:¬x < r.1:=by omega
   simp only[atR]
   rw[if_neg d,this,Int.sub_zero]
   exact ih x hx
def pcs (f L ch s:Int)(r:Row):List Row:=[(max 0 (min (s+r.1) f - s),r.2),(s+r.1 - s - max 0 (min (s+r.1) f - s) - max 0 (s+r.1 - max s (L+1)),r.2+ch),(max 0 (s+r.1 - max s (L+1)),r.2)]
def cutW (f L ch:Int):Int->List Row->List Row
 |_,[]=>[]
 |s,r::rs=>pcs f L ch s r++cutW f L ch (s+r.1) rs
theorem Yj (f L ch:Int):∀(s:Int) (l:List Row),(cutW f L ch s l).length=3 * l.length
 |_,[]=>rfl
 |s,r::rs=>by simp[cutW,pcs,Yj f L ch (s+r.1) rs];omega
theorem QG {rest f L ch:Int}(hfL:f<=L):∀(l:List Row) (s x:Int),NN l->0<=x->atR rest (cutW f L ch s l) x=if x < total l/\f<=x+s/\x+s<=L then atR rest l x+ch else atR rest l x
 | [],s,x,_,hx=>by
  have:¬(x < 0/\f<=x+s/\x+s<=L):=by omega
  rw[show total ([]:List Row)=0 from rfl,if_neg this];rfl
 |r::rs,s,x,h,hx=>by
  have h1:=h r (by simp)
  have ih:=λy hy=>QG (rest:=rest) (ch:=ch) hfL rs (s+r.1) y (λq hq=>h q (by simp[hq])) hy
  obtain⟨a,ha⟩:∃a,max 0 (min (s+r.1) f - s)=a:=⟨_,rfl⟩
  obtain⟨b,hb⟩:∃b,max 0 (s+r.1 - max s (L+1))=b:=⟨_,rfl⟩
  rw[show total (r::rs)=r.1+total rs from rfl]
  simp only[cutW,pcs,ha,hb,List.cons_append,List.nil_append,atR]
  by_cases c:x < r.1
  ·rw[if_pos c]
   by_cases c1:x < a
   ·have:¬(x < r.1+total rs/\f<=x+s/\x+s<=L):=by omega
    rw[if_pos c1,if_neg this]
   ·rw[if_neg c1]
    by_cases c2:x - a < s+r.1 - s - a - b
    ·have ht:f<=x+s/\x+s<=L:=by omega
     rw[if_pos c2]
     by_cases c3:x < r.1+total rs
     ·rw[if_pos ⟨c3,ht⟩]
     ·exfalso
      have:0<=total rs:=by
       have:∀(l:List Row),NN l->0<=total l:=by
        intro l
        induction l with
        |nil=>intro _;exact Int.le_refl 0
        |cons q qs ih=>intro hq;have h2:=ih (λz hz=>hq z (by simp[hz]));have h3:=hq q (by simp);simp only[total];omega
       exact this rs λq hq=>h q (by simp[hq])
      omega
    ·rw[if_neg c2]
     have c3:x - a - (s+r.1 - s - a - b) < b:=by omega
     have:¬(x < r.1+total rs/\f<=x+s/\x+s<=L):=by omega
     rw[if_pos c3,if_neg this]
  ·rw[if_neg c,if_neg (show ¬x < a by omega),if_neg (show ¬x - a < s+r.1 - s - a - b by omega),if_neg (show ¬x - a - (s+r.1 - s - a - b) < b by omega)]
   rw[show x - a - (s+r.1 - s - a - b) - b=x - r.1 by omega,ih (x - r.1) #[1]]
   have e1:(x - r.1 < total rs/\f<=x - r.1+(s+r.1)/\x - r.1+(s+r.1)<=L)↔(x < r.1+total rs/\f<=x+s/\x+s<=L):=by omega
   by_cases d:x < r.1+total rs/\f<=x+s/\x+s<=L
   ·rw[if_pos d,if_pos (e1.mpr d)]
   ·rw[if_neg d,if_neg (λz=>d (e1.mp z))]
theorem Zc (f L ch:Int):∀(l:List Row) (s:Int),NN l->f<=L->NN (cutW f L ch s l)
 | [],_,_,_=>λr hr=>by cases hr
 |r::rs,s,h,hfL=>λq hq=>by
  have h1:=h r (by simp)
  rcases List.mem_append.mp hq with hq | hq
  ·simp only[pcs,List.mem_cons,List.not_mem_nil,or_false] at hq
   rcases hq with rfl | rfl | rfl
   ·show 0<=max 0 _;omega
   ·show 0<=s+r.1 - s - max 0 (min (s+r.1) f - s) - max 0 (s+r.1 - max s (L+1));omega
   ·show 0<=max 0 _;omega
  ·exact Zc f L ch rs (s+r.1) (λz hz=>h z (by simp[hz])) hfL q hq
theorem Qr {f L:Int}:∀(l:List Row) (s:Int),(∀r∈l,0<=r.1/\0<=r.2)->bareR f L l s=none->Pos (fil (cutW f L (-1) s l))
 | [],_,_,_=>λr hr=>by cases hr
 |r::rs,s,h,hb=>λq hq=>by
  obtain⟨hq,hq1⟩:=List.mem_filter.mp hq
  have hq1:0 < q.1:=by simpa using hq1
  have h1:=h r (by simp)
  simp only[bareR] at hb
  by_cases c:r.2=0/\max s f < s+r.1/\max s f<=L
  ·rw[if_pos c] at hb;cases hb
  ·rw[if_neg c] at hb
   rcases List.mem_append.mp hq with hq | hq
   ·simp only[pcs,List.mem_cons,List.not_mem_nil,or_false] at hq
    rcases hq with rfl | rfl | rfl
    ·exact⟨hq1,h1.2⟩
    ·refine⟨hq1,?_⟩
     have hq1:0 < s+r.1 - s - max 0 (min (s+r.1) f - s) - max 0 (s+r.1 - max s (L+1)):=hq1
     show 0<=r.2+-1
     omega
    ·exact⟨hq1,h1.2⟩
   ·exact Qr rs (s+r.1) (λz hz=>h z (by simp[hz])) hb q (List.mem_filter.mpr ⟨hq,by simpa using hq1⟩)
theorem Wf {rest n:Int}:∀(l:List Row) (x:Int),atR rest (l++[(n,rest)]) x=atR rest l x
 | [],x=>by simp[atR]
 |r::rs,x=>by simp[atR,Wf rs (x - r.1)]
theorem WG {rest n f L:Int}(hr:rest≠0):∀(l:List Row) (s:Int),bareR f L (l++[(n,rest)]) s=bareR f L l s
 | [],s=>by simp[bareR,hr]
 |r::rs,s=>by simp[bareR,WG hr rs (s+r.1)]
def lessR (rest f L:Int)(ks:List Row):List Row:=krows rest (fil (cutW f L (-1) 0 (ks++[(max 0 (L+1 - total ks),rest)])))
section
variable {rest f L:Int}{ks:List Row}
theorem Zs (h:Pos ks):NN (ks++[(max 0 (L+1 - total ks),rest)]):=λr hr=>by
 rcases List.mem_append.mp hr with hr | hr
 ·have:=(h r hr).1;omega
 ·rw[List.mem_singleton.mp hr];show 0<=max 0 _;omega
theorem K6 (h:Pos ks)(hr:1<=rest)(hb:bareR f L ks 0=none):Pos (fil (cutW f L (-1) 0 (ks++[(max 0 (L+1 - total ks),rest)]))):=by
 refine Qr _ _ (λr hr'=>?_) (by rw[WG #[1]];exact hb)
 rcases List.mem_append.mp hr' with hr' | hr'
 ·have:=h r hr';exact⟨by omega,this.2⟩
 ·rw[List.mem_singleton.mp hr'];exact⟨by show 0<=max 0 _;omega,by show 0<=rest;omega⟩
theorem zf3 (h:Pos ks)(hr:1<=rest)(hb:bareR f L ks 0=none):Pos (lessR rest f L ks):=u7 rest _ (K6 h hr hb)
theorem VU (h:Pos ks)(hr:1<=rest)(hfL:f<=L)(hb:bareR f L ks 0=none){x:Int}(hx:0<=x):atR rest (lessR rest f L ks) x=atR rest ks x - (if f<=x/\x<=L then 1 else 0):=by
 have e1:atR rest (lessR rest f L ks) x=atR rest (fil (cutW f L (-1) 0 (ks++[(max 0 (L+1 - total ks),rest)]))) x:=JO (Qk rest x) _ (K6 h hr hb)
 rw[e1,Kl _ _ (Zc f L (-1) _ _ (Zs h) hfL) hx,QG hfL _ _ _ (Zs h) hx,Wf,Yl]
 have ht:total ks+total [(max 0 (L+1 - total ks),rest)]=max (total ks) (L+1):=by simp only[total];omega
 rw[ht]
 by_cases c:f<=x/\x<=L
 ·rw[if_pos (show x < max (total ks) (L+1)/\f<=x+0/\x+0<=L by omega),if_pos c];omega
 ·rw[if_neg (show ¬(x < max (total ks) (L+1)/\f<=x+0/\x+0<=L) by omega),if_neg c];omega
theorem R7:(lessR rest f L ks).length<=3 * (ks.length+1):=by
 have h1:=Z6 rest (fil (cutW f L (-1) 0 (ks++[(max 0 (L+1 - total ks),rest)])))
 have h2:(fil (cutW f L (-1) 0 (ks++[(max 0 (L+1 - total ks),rest)]))).length<=(cutW f L (-1) 0 (ks++[(max 0 (L+1 - total ks),rest)])).length:=List.length_filter_le ..
 rw[Yj] at h2
 have:(ks++[(max 0 (L+1 - total ks),rest)]).length=ks.length+1:=by simp
 unfold lessR
 omega
end
theorem Z3 {rest f L:Int}(hr:rest≠0):∀(l:List Row) (b:Int),Pos l->match bareR f L l b with
  |none=>∀t,max b f<=t->t<=L->atR rest l (t - b)≠0
  |some u=>max b f<=u/\u<=L/\atR rest l (u - b)=0/\∀t,max b f<=t->t < u->atR rest l (t - b)≠0
 | [],b,_=>λt _ _=>hr
 |r::rs,b,h=>by
  have h1:=(Pos.cons.mp h).1
  have ih:=Z3 (f:=f) (L:=L) hr rs (b+r.1) (Pos.cons.mp h).2
  simp only[bareR]
  by_cases c:r.2=0/\max b f < b+r.1/\max b f<=L
  ·rw[if_pos c]
   refine⟨Int.le_refl _,c.2.2,?_,λt h1 h2=>by omega⟩
   simp only[atR]
   rw[if_pos #[1]]
   exact c.1
  ·rw[if_neg c]
   cases hb:bareR f L rs (b+r.1) with
   |none=>
    rw[hb] at ih
    intro t t1 t2
    simp only[atR]
    by_cases d:t - b < r.1
    ·rw[if_pos d];intro z;exact c ⟨z,by omega,by omega⟩
    ·rw[if_neg d,show t - b - r.1=t - (b+r.1) by omega];exact ih t #[1] t2
   |some u=>
    rw[hb] at ih
    obtain⟨i1,i2,i3,i4⟩:=ih
    refine⟨by omega,i2,?_,λt t1 t2=>?_⟩
    ·simp only[atR]
     rw[if_neg #[1],show u - b - r.1=u - (b+r.1) by omega];exact i3
    ·simp only[atR]
     by_cases d:t - b < r.1
     ·rw[if_pos d];intro z;exact c ⟨z,by omega,by omega⟩
     ·rw[if_neg d,show t - b - r.1=t - (b+r.1) by omega];exact i4 t #[1] t2
end HM
namespace My
open PySem PySem.Spec L2 L3 L4 L6 Dv
open PyProof.Rows hiding St
def top (i:Nat):Stmt:=PySem.Challenge.pw_latestturn_k52_bookings.main.body.getD i (.Pass ⟨0,0,0,0⟩)
abbrev vC:Stmt:=top 10
abbrev wM:Stmt:=top 11
abbrev wP:Stmt:=top 12
abbrev wn:Stmt:=top 13
abbrev vy:Stmt:=top 14
abbrev vk:Stmt:=top 15
abbrev vA:Stmt:=top 16
abbrev vt:Stmt:=zJ (top 17) 0
abbrev wH:Stmt:=zJ (top 17) 1
abbrev vU:Stmt:=zJ (top 17) 3
abbrev jo:Stmt:=zJ (top 17) 4
abbrev jj:Stmt:=zJ (top 17) 6
abbrev j3:Stmt:=zJ (top 17) 7
abbrev wZ:Stmt:=zJ (top 17) 9
abbrev wL:Stmt:=top 19
abbrev wG:Stmt:=top 21
abbrev yV:Stmt:=top 23
abbrev vZ:Stmt:=top 24
abbrev vT:Stmt:=zJ (top 27) 0
abbrev jg:Stmt:=zJ (top 27) 1
abbrev je:Stmt:=zJ (top 27) 2
abbrev jy:Stmt:=zJ (top 26) 0
abbrev vp:Stmt:=zJ (top 26) 3
abbrev vK:Stmt:=zJ (top 28) 0
abbrev vj:Stmt:=zJ (top 28) 1
abbrev jq:Stmt:=zJ (top 28) 2
abbrev vq:Stmt:=zJ (top 28) 3
abbrev vx:Stmt:=zJ (top 26) 1
abbrev jk:Stmt:=zJ (top 26) 0
abbrev jl:Stmt:=zJ (top 29) 0
abbrev vM:Stmt:=zJ (top 29) 1
abbrev vd:Stmt:=zJ (top 29) 2
abbrev jr:Stmt:=zJ (top 29) 3
abbrev vE:Stmt:=zJ (top 26) 1
abbrev vF:Stmt:=zJ (top 26) 0
abbrev wK:Stmt:=top 30
abbrev vw:Stmt:=top 31
abbrev jt:Stmt:=top 32
abbrev wq:Stmt:=top 36
abbrev j8:Stmt:=top 37
abbrev wD:Stmt:=top 38
abbrev vz:Stmt:=top 40
abbrev vL:Stmt:=top 41
abbrev j5:Stmt:=top 42
abbrev jp:Stmt:=top 43
abbrev vn:Stmt:=top 44
abbrev ja:Stmt:=top 45
abbrev xJ:Stmt:=top 46
abbrev jz:Stmt:=top 47
abbrev vH:Stmt:=top 48
abbrev jd:Stmt:=top 49
abbrev j7:Stmt:=top 50
abbrev jb:Stmt:=top 51
abbrev ve:Stmt:=top 52
abbrev wU:Stmt:=top 53
abbrev wS:Stmt:=top 54
abbrev vm:Stmt:=top 55
abbrev wV:Stmt:=top 56
abbrev yS:Stmt:=top 57
def ji:List Str:=["thing"]
def wc:SD:=(sRet (gAndV (gIs "int" (gr 0)) (gNotV (gIs "bool" (gr 0)))))
def yY:List En->Option En:=mir ji (wc)
def xS:List Str:=["thing","low","high"]
def w5:SD:=(sRet (gAndV (gCall (len? 1 yY) frzO (nCons (gn 0) nNil)) (g3 fLe fLe (gr 1) (gr 0) (gr 2))))
def zN:List En->Option En:=mir xS (w5)
def JB:List Str:=["thing"]
def Zr:SD:=(sSeq (sIf (gOr (gNot (gt (gIs "tuple" (gr 0)))) (gb' (g2 (fEq true) (gB fLen (gCons' (gr 0) gNil)) (gc (.int 2))))) (sRet (gc (.bl false))) sNext) (sRet (gAndV (gCall (len? 3 zN) frzO (nCons (gVal (g2 fItem (gr 0) (gc (.int 0)))) (nCons (gVal #[15]) (nCons (gVal (gc (.int 100))) nNil)))) (gCall (len? 3 zN) frzO (nCons (gVal (g2 fItem (gr 0) #[15])) (nCons (gVal (gc (.int 0))) (nCons (gVal (gc (.int 8))) nNil)))))))
def qv:List En->Option En:=mir JB (Zr)
def jR:List Str:=["rows","rest"]
def Y4:EnvD->Option D:=(gCall (len? 1 qv) frzO (nCons (gn 0) nNil))
def Yc:SD:=(sSeq (sIf (gOr (gNot (gt (gIs "list" (gr 0)))) (gb' (g2 fGt (gB fLen (gCons' (gr 0) gNil)) (gc (.int 16))))) sNever sNext) (sSeq (sIf (gNot (gt (gB fAll (gCons' (gFz (gComp ["row"] [] (.name 0) tYes Y4 (gIt (gr 0)))) gNil)))) sNever sNext) (sIf (gNot (gt (gCall (len? 3 zN) frzO (nCons (gn 1) (nCons (gVal #[15]) (nCons (gVal (gc (.int 8))) nNil)))))) sNever sNext)))
def qx:List En->Option En:=mir jR (Yc)
def jK:List Str:=["rows","rest","kept","turns","counters"]
def y1:SD:=(sIf (gAnd (gt (gr 2)) (gb' (g2 (fEq false) (g2 fItem (g2 fItem (gr 2) (gNeg #[15])) #[15]) (gr 4)))) (sPut 2 (gNeg #[15]) (gTup' (gCons' (g2 fPlus (g2 fItem (g2 fItem (gr 2) (gNeg #[15])) (gc (.int 0))) (gr 3)) (gCons' (gv 4) gNil)))) (sIf (gb' (g2 fGt (gr 3) (gc (.int 0)))) (sApp 2 (gTup' (gCons' (gv 3) (gCons' (gv 4) gNil)))) sNext))
def kI:SD:=(sSeq (sSetA 2 (gLst gNil)) (sSeq (sFor (.tup [3,4]) (gIt (gf 0)) y1) (sSeq (sIf (gAnd (gt (gr 2)) (gb' (g2 (fEq false) (g2 fItem (g2 fItem (gr 2) (gNeg #[15])) #[15]) (gr 1)))) (sPop 2) sNext) (sRetV 2))))
def yU:List En->Option En:=mir jK (kI)
def jV:List Str:=["rows","spans","start","turns","counters"]
def uK:SD:=(sSeq (sApp 1 (gTup' (gCons' (gv 2) (gCons' (g2 fPlus (gr 2) (gr 3)) (gCons' (gv 4) gNil))))) (sSet 2 (g2 fPlus (gr 2) (gr 3))))
def uw:SD:=(sSeq (sSetA 1 (gLst gNil)) (sSeq (sSet 2 (gc (.int 0))) (sSeq (sFor (.tup [3,4]) (gIt (gf 0)) uK) (sRetV 1))))
def yP:List En->Option En:=mir jV (uw)
def u8:List Str:=["spans","first","last","change","pieces","start","stop","counters","ahead","behind"]
def Z8:SD:=(sSeq (sSet 8 (gB fMax (gCons' (gc (.int 0)) (gCons' (g2 fSub (gB fMin (gCons' (gr 6) (gCons' (gr 1) gNil))) (gr 5)) gNil)))) (sSeq (sSet 9 (gB fMax (gCons' (gc (.int 0)) (gCons' (g2 fSub (gr 6) (gB fMax (gCons' (gr 5) (gCons' (g2 fPlus (gr 2) #[15]) gNil)))) gNil)))) (sSeq (sApp 4 (gTup' (gCons' (gv 8) (gCons' (gv 7) gNil)))) (sSeq (sApp 4 (gTup' (gCons' (g2 fSub (g2 fSub (g2 fSub (gr 6) (gr 5)) (gr 8)) (gr 9)) (gCons' (g2 fPlus (gr 7) (gr 3)) gNil)))) (sApp 4 (gTup' (gCons' (gv 9) (gCons' (gv 7) gNil))))))))
def Zf:SD:=(sSeq (sSetA 4 (gLst gNil)) (sSeq (sFor (.tup [5,6,7]) (gIt (gf 0)) Z8) (sRetV 4)))
def qy:List En->Option En:=mir u8 (Zf)
def jT:List Str:=["self","rows","rest"]
def jW (C:Str->Addr):SD:=(sSeq (sExpr (gCall (len? 2 qx) frzO (nCons (gn 1) (nCons (gn 2) nNil)))) (sSeq (sFldD 0 #[5] "kept_rest" (gv 2)) (sFldD 0 #[5] "spans" (gFz (gCall (len? 1 yP) accO (nCons (gVal (gCall (len? 2 yU) frzO (nCons (gn 1) (nCons (gn 2) nNil)))) nNil))))))
def xw (C:Str->Addr):List En->Option #[22]:=mirI #[5] jT (jW C) 0 0
def JK:List Str:=["self"]
def YB:EnvD->Option D:=(gTup' (gCons' (g2 fSub (gr 1) (gr 0)) (gCons' (gv 2) gNil)))
def ZU (C:Str->Addr):SD:=(sRetA (gComp ["start","stop","counters"] [] (.tup [0,1,2]) tYes YB (gIt (gFld #[5] "spans" (gv 0)))))
def jA (C:Str->Addr):List En->Option En:=mir JK (ZU C)
def YR:List Str:=["self"]
def ki (C:Str->Addr):SD:=(sRet (gIf (gt (gFld #[5] "spans" (gv 0))) (g2 fItem (g2 fItem (gFld #[5] "spans" (gv 0)) (gNeg #[15])) #[15]) (gc (.int 0))))
def jw (C:Str->Addr):List En->Option En:=mir YR (ki C)
def qS:List Str:=["self","turn","low","high","middle"]
def uv (C:Str->Addr):SD:=(sSeq (sSet 4 (g2 fDiv (g2 fPlus (gr 2) (gr 3)) (gc (.int 2)))) (sIf (gb' (g2 fLt (gr 1) (g2 fItem (g2 fItem (gFld #[5] "spans" (gv 0)) (gr 4)) #[15]))) (sSet 3 (gv 4)) (sSet 2 (g2 fPlus (gr 4) #[15]))))
def Zl (C:Str->Addr):SD:=(sSeq (sSet 2 (gc (.int 0))) (sSeq (sSet 3 (gB fLen (gCons' (gFld #[5] "spans" (gv 0)) gNil))) (sSeq (sWhile (gb' (g2 fLt (gr 2) (gr 3))) (uv C)) (sRet (gIf (gb' (g2 fLt (gr 2) (gB fLen (gCons' (gFld #[5] "spans" (gv 0)) gNil)))) (g2 fItem (g2 fItem (gFld #[5] "spans" (gv 0)) (gr 2)) (gc (.int 2))) (gFld #[5] "kept_rest" (gv 0)))))))
def xj (C:Str->Addr):List En->Option En:=mir qS (Zl C)
def kG:List Str:=["self","first","last","start","stop","counters","turn"]
def vS:SD:=(sSeq (sSet 6 (gB fMax (gCons' (gr 3) (gCons' (gr 1) gNil)))) (sIf (gAnd (gb' (g2 (fEq false) (gr 5) (gc (.int 0)))) (gAnd (gb' (g2 fLt (gr 6) (gr 4))) (gb' (g2 fLe (gr 6) (gr 2))))) (sRetV 6) sNext))
def ZM (C:Str->Addr):SD:=(sSeq (sFor (.tup [3,4,5]) (gIt (gFld #[5] "spans" (gv 0))) vS) (sRet (gc .non)))
def xY (C:Str->Addr):List En->Option En:=mir kG (ZM C)
def qG:List Str:=["self","first","last","change","other","rows"]
def Ym (C:Str->Addr):SD:=(sSeq (sSetO 4 #[5] (gMakeO 2 (xw C) (nCons (gVal (gFz (gLst gNil))) (nCons (gVal (gFld #[5] "kept_rest" (gv 0))) nNil)))) (sSeq (sSetA 5 (gMeth #[5] "rows" (len? 1 (jA C)) accO (gv 0) nNil)) (sSeq (sIf (gb' (g2 fLe (gr 1) (gr 2))) (sSeq (sApp 5 (gTup' (gCons' (gB fMax (gCons' (gc (.int 0)) (gCons' (g2 fSub (g2 fPlus (gr 2) #[15]) (gMeth #[5] "end" (len? 1 (jw C)) frzO (gv 0) nNil)) gNil))) (gCons' (gFld #[5] "kept_rest" (gv 0)) gNil)))) (sSetA 5 (gCall (len? 4 qy) accO (nCons (gVal (gFz (gCall (len? 1 yP) accO (nCons (gn 5) nNil)))) (nCons (gn 1) (nCons (gn 2) (nCons (gn 3) nNil))))))) sNext) (sSeq (sFldO 4 #[5] "spans" (gFz (gCall (len? 1 yP) accO (nCons (gVal (gCall (len? 2 yU) frzO (nCons (gn 5) (nCons (gVal (gFld #[5] "kept_rest" (gv 0))) nNil)))) nNil)))) (sRetO 4)))))
def qi (C:Str->Addr):List En->Option En:=mir qG (Ym C)
def u6:List Str:=["self","first","last","turn"]
def ZQ (C:Str->Addr):SD:=(sSeq (sSet 3 (gMeth #[5] "free" (len? 3 (xY C)) frzO (gv 0) (nCons (gn 1) (nCons (gn 2) nNil)))) (sSeq (sIf (gb' (g2 (fIs true) (gr 3) (gc .non))) sNever sNext) (sRet (gMeth #[5] "changed" (len? 4 (qi C)) frzO (gv 0) (nCons (gn 1) (nCons (gn 2) (nCons (gVal (gNeg #[15])) nNil)))))))
def jZ (C:Str->Addr):List En->Option En:=mir u6 (ZQ C)
def W9:List Str:=["queue"]
def Zm:EnvD->Option D:=(gv 0)
def YI:SD:=(sRetA (gComp ["name","left"] [] (.tup [0,1]) tYes Zm (gIt (gr 0))))
def qm:List En->Option En:=mir W9 (YI)
def v2:List Str:=["queue","many","served","begun"]
def uo:EnvD->Option D:=(gTup' (gCons' (gv 0) (gCons' (g2 fSub (gr 1) #[15]) gNil)))
def uq:SD:=(sSeq (sSet 2 (gFz (gSl (gr 0) gNone (gSome (gr 1))))) (sSeq (sSet 3 (gFz (gComp ["name","left"] [] (.tup [0,1]) (gb' (g2 fGt (gr 1) #[15])) uo (gIt (gr 2))))) (sRet (gTup' (gCons' (gFz (gCall (len? 1 qm) accO (nCons (gn 2) nNil))) (gCons' (gFz (g2 fCatS (gr 3) (gFz (gSl (gr 0) (gSome (gr 1)) gNone)))) gNil))))))
def xh:List En->Option En:=mir v2 (uq)
def uj:List Str:=["queue","hours","begin","real","waiting","rows","turn","served"]
def vO (C:Str->Addr):SD:=(sSeq (sSet 6 (g2 fPlus (gr 2) (gB fLen (gCons' (gr 5) gNil)))) (sSeq (sSet 7 (gCall (len? 2 xh) frzO (nCons (gn 4) (nCons (gVal (gMeth #[5] "at" (len? 2 (xj C)) frzO (gv 1) (nCons (gn 6) nNil))) nNil)))) (sSeq (sApp 5 (gTup' (gCons' (gv 6) (gCons' (g2 fItem (gr 7) (gc (.int 0))) gNil)))) (sSet 4 (g2 fItem (gr 7) #[15])))))
def Z1 (C:Str->Addr):SD:=(sSeq (sSetB 4 (gIfB (gb' (g2 (fIs false) (gr 3) (gc .non))) (gvb 0) (gVal gNev))) (sSeq (sSetA 5 (gLst gNil)) (sSeq (sWhile (gt (gr 4)) (vO C)) (sRetV 5))))
def wC (C:Str->Addr):List En->Option En:=mir uj (Z1 C)
def kR:List Str:=["rows","ends","turn","names","name"]
def Yg:SD:=(sPutD 1 (gr 4) (gv 2))
def uI:SD:=(sFor (.name 4) (gIt (gf 3)) Yg)
def Zg:SD:=(sSeq (sSetD 1 gNewD) (sSeq (sFor (.tup [2,3]) (gIt (gf 0)) uI) (sRetVD 1)))
def jH:List En->Option En:=mir kR (Zg)
def KU:List Str:=["self"]
def Z4 (C:Str->Addr):SD:=(sRet (gc (.bl true)))
def y3 (C:Str->Addr):List En->Option En:=mir KU (Z4 C)
def Ju:List Str:=["self"]
def YM (C:Str->Addr):SD:=(sRet (gc (.str "granted")))
def kQ (C:Str->Addr):List En->Option En:=mir Ju (YM C)
def vv:List Str:=["self","queue","hours","begin"]
def qK (C:Str->Addr):SD:=(sSeq (sFldD 0 #[16] "queue" (gFz (gB fList (gCons' (gr 1) gNil)))) (sSeq (sFldD 0 #[16] "hours" (gv 2)) (sFldD 0 #[16] "begin" (gv 3))))
def wt (C:Str->Addr):List En->Option #[22]:=mirI #[16] vv (qK C) 0 0
def Ua:List Str:=["self"]
def ZC (C:Str->Addr):SD:=(sRetT (gTupT (tCn (gLf (gMeth #[16] "word" (len? 1 (kQ C)) frzO (gv 0) nNil)) tNl)))
def y6 (C:Str->Addr):List En->Option En:=mir Ua (ZC C)
def KT:List Str:=["self"]
def ZT (C:Str->Addr):SD:=(sRet (gc (.str "no counter")))
def uu (C:Str->Addr):List En->Option En:=mir KT (ZT C)
def Qd:List Str:=["self"]
def ZH (C:Str->Addr):SD:=(sRetT (gTupT (tCn (gLf (gMeth #[12] "word" (len? 1 (uu C)) frzO (gv 0) nNil)) (tCn (gLf (gFld #[12] "turn" (gv 0))) tNl))))
def yA (C:Str->Addr):List En->Option En:=mir Qd (ZH C)
def xO:List Str:=["self","promises"]
def Yn (C:Str->Addr):SD:=(sRet (gAndV (g2 fGe (gFld #[12] "turn" (gv 0)) (gFld #[12] "begin" (gv 0))) (g2 (fEq false) (gMeth #[5] "at" (len? 2 (xj C)) frzO (gFld #[12] "hours" (gv 0)) (nCons (gVal (gFld #[12] "turn" (gv 0))) nNil)) (gc (.int 0)))))
def xf (C:Str->Addr):List En->Option En:=mir xO (Yn C)
def JR:List Str:=["self"]
def ZL (C:Str->Addr):SD:=(sRet (gc (.bl false)))
def yF (C:Str->Addr):List En->Option En:=mir JR (ZL C)
def Wi:List Str:=["self","queue","hours","begin"]
def uH (C:Str->Addr):SD:=(sSeq (sFldD 0 #[12] "queue" (gFz (gB fList (gCons' (gr 1) gNil)))) (sSeq (sFldD 0 #[12] "hours" (gv 2)) (sFldD 0 #[12] "begin" (gv 3))))
def xE (C:Str->Addr):Addr->Addr->List En->Option #[22]:=mirI #[12] Wi (uH C)
def qR:List Str:=["self","queue","hours","begin","turn"]
def ue (C:Str->Addr):SD:=(sSeq (sBase 0 #[12] 3 (xE C) (nCons (gn 1) (nCons (gn 2) (nCons (gn 3) nNil)))) (sFldD 0 #[12] "turn" (gv 4)))
def w6 (C:Str->Addr):List En->Option #[22]:=mirI #[12] qR (ue C) 0 0
def Vc:List Str:=["self"]
def ZG (C:Str->Addr):SD:=(sRet (gc (.str "late")))
def uy (C:Str->Addr):List En->Option En:=mir Vc (ZG C)
def Qn:List Str:=["self"]
def ZN (C:Str->Addr):SD:=(sRet (gc (.bl false)))
def y7 (C:Str->Addr):List En->Option En:=mir Qn (ZN C)
def Vy:List Str:=["self","queue","hours","begin"]
def Zt (C:Str->Addr):SD:=(sSeq (sFldD 0 (C "Late") "queue" (gFz (gB fList (gCons' (gr 1) gNil)))) (sSeq (sFldD 0 (C "Late") "hours" (gv 2)) (sFldD 0 (C "Late") "begin" (gv 3))))
def xr (C:Str->Addr):Addr->Addr->List En->Option #[22]:=mirI (C "Late") Vy (Zt C)
def WJ:List Str:=["rows"]
def Yr:SD:=(sRetT (gCompT ["turn","names"] [] (.tup [0,1]) tYes (gTupT (tCn (gLf (gv 0)) (tCn (gLs (gB fList (gCons' (gr 1) gNil))) tNl))) (gIt (gr 0))))
def wf:List En->Option En:=mir WJ (Yr)
def qM:List Str:=["self","queue","hours","begin","name","promised","turn","run"]
def qY (C:Str->Addr):SD:=(sSeq (sBase 0 (C "Late") 3 (xr C) (nCons (gn 1) (nCons (gn 2) (nCons (gn 3) nNil)))) (sSeq (sFldD 0 (C "Late") "name" (gv 4)) (sSeq (sFldD 0 (C "Late") "promised" (gv 5)) (sSeq (sFldD 0 (C "Late") "turn" (gv 6)) (sFldD 0 (C "Late") "run" (gCall (len? 1 wf) frzO (nCons (gn 7) nNil)))))))
def wb (C:Str->Addr):List En->Option #[22]:=mirI (C "Late") qM (qY C) 0 0
def QR:List Str:=["self"]
def Z5 (C:Str->Addr):SD:=(sRetT (gTupT (tCn (gLf (gMeth (C "Late") "word" (len? 1 (uy C)) frzO (gv 0) nNil)) (tCn (gLf (gFld (C "Late") "name" (gv 0))) (tCn (gLf (gFld (C "Late") "promised" (gv 0))) (tCn (gLf (gFld (C "Late") "turn" (gv 0))) (tCn (gCall (len? 1 wf) treO (nCons (gVal (gFld (C "Late") "run" (gv 0))) nNil)) tNl)))))))
def yw (C:Str->Addr):List En->Option En:=mir QR (Z5 C)
def jF:List Str:=["queue","ends","promises","name","left"]
def xF:SD:=(sIf (gAnd (gb' (gInD false (gr 3) (gk' 2))) (gb' (g2 fGt (gGetD (gk' 1) (gr 3)) (gGetD (gk' 2) (gr 3))))) (sRetV 3) sNext)
def ux:SD:=(sSeq (sFor (.tup [3,4]) (gIt (gf 0)) xF) (sRet (gc .non)))
def jc:List En->Option En:=mir jF (ux)
def qr:List Str:=["queue","hours","begin","promises","run","ends","late"]
def kA (C:Str->Addr):SD:=(sSeq (sSet 4 (gFz (gCall (len? 3 (mN (wC C))) accO (nCons (gn 0) (nCons (gn 1) (nCons (gn 2) nNil)))))) (sSeq (sSetD 5 (gCall (len? 1 jH) dctO (nCons (gn 4) nNil))) (sSeq (sSet 6 (gCall (len? 3 jc) frzO (nCons (gn 0) (nCons (gn 5) (nCons (gn 3) nNil))))) (sSeq (sIf (gb' (g2 (fIs false) (gr 6) (gc .non))) (sRet (gMake #[16] 3 (wt C) (nCons (gn 0) (nCons (gn 1) (nCons (gn 2) nNil))))) sNext) (sRet (gMake (C "Late") 7 (wb C) (nCons (gn 0) (nCons (gn 1) (nCons (gn 2) (nCons (gn 6) (nCons (gVal (gGetD (gk' 3) (gr 6))) (nCons (gVal (gGetD (gk' 5) (gr 6))) (nCons (gn 4) nNil)))))))))))))
def yg (C:Str->Addr):List En->Option En:=mir qr (kA C)
def Zy:List Str:=["self","promises"]
def kg (C:Str->Addr):SD:=(sRet (yAlt (gMeth #[16] "granted" (len? 1 (y3 C)) frzO #[32] nNil) (yAlt (gMeth (C "Late") "granted" (len? 1 (y7 C)) frzO #[32] nNil) (gMeth #[12] "granted" (len? 1 (yF C)) frzO #[32] nNil))))
def yN (C:Str->Addr):List En->Option En:=mir Zy (kg C)
def uM:List Str:=["self","promises"]
def qH (C:Str->Addr):SD:=(sRet (g2 (fEq false) (yAlt (gMeth #[16] "told" (len? 1 (y6 C)) frzO #[34] nNil) (yAlt (gMeth (C "Late") "told" (len? 1 (yw C)) frzO #[34] nNil) (gMeth #[12] "told" (len? 1 (yA C)) frzO #[34] nNil))) (gMeth (C "Late") "told" (len? 1 (yw C)) frzO (gv 0) nNil)))
def yG (C:Str->Addr):List En->Option En:=mir uM (qH C)
def yC:List Str:=["begin","first","last"]
def jn:SD:=(sSeq (sIf (gNot (gt (gCall (len? 3 zN) frzO (nCons (gn 1) (nCons (gn 0) (nCons (gVal (gc (.int 100000))) nNil)))))) sNever sNext) (sSeq (sIf (gNot (gt (gCall (len? 3 zN) frzO (nCons (gn 2) (nCons (gn 1) (nCons (gVal (gc (.int 100000))) nNil)))))) sNever sNext) (sIf (gb' (g2 fGe (g2 fSub (gr 2) (gr 1)) (gc (.int 50)))) sNever sNext)))
def yI:List En->Option En:=mir yC (jn)
def jN:EnvD->Option (EnvD×Xv):=(yAlt (yIf (gNot (gt (gCall (len? 3 zN) frzO (nCons (gn 1) (nCons (gn 0) (nCons (gVal (gc (.int 100000))) nNil)))))) (xU "NoNumber" (gc (.str "the first turn of a booking is from begin to 100000"))) yNo) (ySeq (sIf (gNot (gt (gCall (len? 3 zN) frzO (nCons (gn 1) (nCons (gn 0) (nCons (gVal (gc (.int 100000))) nNil)))))) sNever sNext) (yAlt (yIf (gNot (gt (gCall (len? 3 zN) frzO (nCons (gn 2) (nCons (gn 1) (nCons (gVal (gc (.int 100000))) nNil)))))) (xU "NoNumber" (gc (.str "the last turn of a booking is from its first one to 100000"))) yNo) (ySeq (sIf (gNot (gt (gCall (len? 3 zN) frzO (nCons (gn 2) (nCons (gn 1) (nCons (gVal (gc (.int 100000))) nNil)))))) sNever sNext) (yIf (gb' (g2 fGe (g2 fSub (gr 2) (gr 1)) (gc (.int 50)))) (xU "NoNumber" (gc (.str "a booking has at most 50 turns"))) yNo)))))
def xV:List En->Option Xv:=mirY yC 3 jN
def jP:List Str:=["queue","hours","begin","promises","first","last","turn"]
def kr (C:Str->Addr):SD:=(sSeq (sSet 6 (gMeth #[5] "free" (len? 3 (xY C)) frzO (gv 1) (nCons (gn 4) (nCons (gn 5) nNil)))) (sSeq (sIf (gb' (g2 (fIs true) (gr 6) (gc .non))) (sRet (gMake #[12] 4 (w6 C) (nCons (gn 0) (nCons (gn 1) (nCons (gn 2) (nCons (gn 6) nNil)))))) sNext) (sRet (gCall (len? 4 (yg C)) frzO (nCons (gn 0) (nCons (gVal (gMeth #[5] "less" (len? 3 (jZ C)) frzO (gv 1) (nCons (gn 4) (nCons (gn 5) nNil)))) (nCons (gn 2) (nCons (gn 3) nNil))))))))
def xz (C:Str->Addr):List En->Option En:=mir jP (kr C)
def wa:List Str:=["queue","hours","begin","promises","first","last"]
def qW (C:Str->Addr):SD:=(sSeq (sExpr (gCall (len? 3 yI) frzO (nCons (gn 2) (nCons (gn 4) (nCons (gn 5) nNil))))) (sRet (gCall (len? 6 (xz C)) frzO (nCons (gn 0) (nCons (gn 1) (nCons (gn 2) (nCons (gn 3) (nCons (gn 4) (nCons (gn 5) nNil)))))))))
def xp (C:Str->Addr):List En->Option En:=mir wa (qW C)
def Z2:EnvD->Option (EnvD×Xv):=(yE (yCall xV (nCons (gn 2) (nCons (gn 4) (nCons (gn 5) nNil)))))
def vX:List En->Option Xv:=mirY wa 6 Z2
def qu:List Str:=["_law_script","_law_k"]
def qB:SD:=(sSeq (sIf (gb' (g2 fLt (gr 1) (gB fLen (gCons' (gr 0) gNil)))) (sRet (g2 fItem (gr 0) (gr 1))) sNext) (sRet (gc (.int 0))))
def xo:List En->Option En:=mir qu (qB)
def ub:List Str:=["_law_cell_here","_law_k","_law_number_here"]
def ZW:SD:=(sSeq (sSet 2 (g2 fMod (g2 fPlus (g2 fPlus (g2 fMul (g2 fMod (gr 0) (gc (.int 2147483647))) (gc (.int 48271))) (g2 fMul (gc (.int 69621)) (gr 1))) (gc (.int 7))) (gc (.int 2147483647)))) (sSeq (sSet 2 (g2 fMod (g2 fMul (gr 2) (gr 2)) (gc (.int 2147483629)))) (sRet (g2 fMod (g2 fPlus (g2 fPlus (g2 fMul (gr 2) (gr 2)) (g2 fMul (gc (.int 16807)) (gr 2))) (gc (.int 11))) (gc (.int 2147483587))))))
def qj:List En->Option En:=mir ub (ZW)
def qU:List Str:=["_law_script","_law_at_here","_law_bases","_law_cell_here","_law_found","_law_k","_law_base"]
def kJ:SD:=(sIf (gb' (g2 (fEq false) (g2 fAnd (g2 fShr (gCall (len? 2 xo) frzO (nCons (gn 0) (nCons (gVal (gc (.int 0))) nNil))) (g2 fMod (gr 1) (gc (.int 8)))) #[15]) (gc (.int 0)))) (sSeq (sApp 4 (g2 fMod (gr 3) (gr 6))) (sSet 3 (g2 fDiv (gr 3) (gr 6)))) (sApp 4 (g2 fMod (g2 fDiv (gCall (len? 2 qj) frzO (nCons (gn 3) (nCons (gn 5) nNil))) (gc (.int 8))) (gr 6))))
def Y3:SD:=(sSeq (sSet 3 (gCall (len? 2 xo) frzO (nCons (gn 0) (nCons (gn 1) nNil)))) (sSeq (sSetA 4 (gLst gNil)) (sSeq (sFor (.tup [5,6]) (gEn (gCons' (gf 2) gNil)) kJ) (sRetV 4))))
def yq:List En->Option En:=mir qU (Y3)
def uc:List Str:=["_law_cell_here","_law_k","_law_signs","_law_size","_law_at_here","_law_left","_law_word","_law_j"]
def uA:SD:=(sSeq (sSet 6 (g2 fPlus (gr 6) (g2 fItem (gr 2) (g2 fMod (gr 5) (g2 fItem (gFz (gLst (gCons' (gc (.int 36)) (gCons' (gc (.int 26)) gNil)))) (gB fInt (gCons' (g2 (fEq false) (gr 7) (gc (.int 0))) gNil))))))) (sSet 5 (g2 fDiv (gr 5) (gc (.int 36)))))
def uX:SD:=(sSeq (sSet 2 (gc (.str "abcdefghijklmnopqrstuvwxyz0123456789"))) (sSeq (sSet 3 (g2 fMod (gr 0) (gc (.int 8)))) (sSeq (sSet 4 (g2 fMod (g2 fDiv (gr 0) (gc (.int 8))) (g2 fPlus (gr 3) #[15]))) (sSeq (sSet 5 (g2 fDiv (gr 0) (gc (.int 72)))) (sSeq (sSet 6 (gc (.str ""))) (sSeq (sFor (.name 7) (gR1 (gCons' (gr 3) gNil)) uA) (sRet (g2 fPlus (g2 fPlus (gSlS (gr 6) gNone (gSome (gr 4))) (g2 fItem (gr 2) (g2 fMod (g2 fPlus (gr 5) (gr 1)) (gc (.int 26))))) (gSlS (gr 6) (gSome (gr 4)) gNone)))))))))
def jC:List En->Option En:=mir uc (uX)
def qJ:List Str:=["_law_script","_law_many","_law_begin","_law_rest","_law_wide","_law_drawn","_law_rows","_law_k","_law_tickets","_law_long","_law_lefts","_law_queue","_law_left"]
def uJ:SD:=(sApp 11 (gTup' (gCons' (gCall (len? 2 jC) frzO (nCons (gVal (gCall (len? 2 xo) frzO (nCons (gn 0) (nCons (gVal (gc (.int 4))) nNil)))) (nCons (gn 7) nNil))) (gCons' (g2 fPlus #[15] (g2 fMod (gr 12) (g2 fItem (gFz (gLst (gCons' (gc (.int 20)) (gCons' (gc (.int 5)) (gCons' (gc (.int 3)) (gCons' (gc (.int 5)) gNil)))))) (gr 9)))) gNil))))
def YN:SD:=(sApp 6 (gTup' (gCons' (g2 fPlus #[15] (g2 fItem (gr 5) (g2 fMul (gc (.int 2)) (gr 7)))) (gCons' (g2 fMod (g2 fItem (gr 5) (g2 fPlus (g2 fMul (gc (.int 2)) (gr 7)) #[15])) (g2 fItem (gFz (gLst (gCons' (gc (.int 9)) (gCons' (gc (.int 4)) (gCons' (gc (.int 3)) (gCons' (gc (.int 2)) gNil)))))) (gr 4))) gNil))))
def ZK:SD:=(sSeq (sAsgL [1,2,3,4] (gFz (gCall (len? 3 yq) accO (nCons (gn 0) (nCons (gVal #[15]) (nCons (gVal (gFz (gLst (gCons' (gc (.int 6)) (gCons' (gc (.int 21)) (gCons' (gc (.int 3)) (gCons' (gc (.int 4)) gNil))))))) nNil)))))) (sSeq (sSet 5 (gFz (gCall (len? 3 yq) accO (nCons (gn 0) (nCons (gVal (gc (.int 2))) (nCons (gVal (gFz (g2 fRep (gFz (gLst (gCons' (gc (.int 6)) (gCons' (gc (.int 36)) gNil)))) (gr 1)))) nNil)))))) (sSeq (sSetA 6 (gLst gNil)) (sSeq (sFor (.name 7) (gR1 (gCons' (gr 1) gNil)) YN) (sSeq (sAsgL [8,9] (gFz (gCall (len? 3 yq) accO (nCons (gn 0) (nCons (gVal (gc (.int 3))) (nCons (gVal (gFz (gLst (gCons' (gc (.int 9)) (gCons' (gc (.int 4)) gNil))))) nNil)))))) (sSeq (sSet 10 (gFz (gSl (gFz (gCall (len? 3 yq) accO (nCons (gn 0) (nCons (gVal (gc (.int 3))) (nCons (gVal (gFz (g2 fCatS (gFz (gLst (gCons' (gc (.int 9)) (gCons' (gc (.int 4)) gNil)))) (gFz (g2 fRep (gFz (gLst (gCons' (gc (.int 20)) gNil))) (gr 8)))))) nNil))))) (gSome (gc (.int 2))) gNone))) (sSeq (sSetA 11 (gLst gNil)) (sSeq (sFor (.tup [7,12]) (gEn (gCons' (gf 10) gNil)) uJ) (sFrz 6 (sFrz 11 (sRet (gTup' (gCons' (gv 11) (gCons' (gv 6) (gCons' (g2 fPlus #[15] (gr 3)) (gCons' (gv 2) gNil))))))))))))))))
def qw:List En->Option En:=mir qJ (ZK)
def jx:List Str:=["_law_side","_law_turn","_law_rows","_law_rest","_law_first","_law_last","_law_counters","_law_left","_law_turns_here","_law_there"]
def kq:SD:=(sSeq (sIf (gb' (g2 fLt (gr 7) (gr 8))) (sSeq (sSet 6 (gv 9)) sBrk) sNext) (sSet 7 (g2 fSub (gr 7) (gr 8))))
def jI:SD:=(sSeq (sAsg (.tup [2,3,4,5]) (gv 0)) (sSeq (sSet 6 (gv 3)) (sSeq (sSet 7 (gv 1)) (sSeq (sFor (.tup [8,9]) (gIt (gf 2)) kq) (sRet (g2 fSub (gr 6) (gB fInt (gCons' (g3 fLe fLe (gr 4) (gr 1) (gr 5)) gNil))))))))
def zY:List En->Option En:=mir jx (jI)
def vg:List Str:=["_law_queue","_law_side","_law_begin","_law_some","_law_found","_law_turn","_law_many"]
def WK:EnvD->Option D:=(gTup' (gCons' (gv 0) (gCons' (g2 fSub (gr 1) #[15]) gNil)))
def ZA:EnvD->Option D:=(gv 0)
def Ys:SD:=(sSeq (sSet 6 (gCall (len? 2 zY) frzO (nCons (gn 1) (nCons (gn 5) nNil)))) (sSeq (sApp 4 (gTup' (gCons' (gv 5) (gCons' (gFz (gComp ["_law_name_here","_law_left"] [] (.tup [0,1]) tYes ZA (gIt (gFz (gSl (gr 3) gNone (gSome (gr 6))))))) gNil)))) (sSeq (sSet 3 (gFz (g2 fCatS (gFz (gComp ["_law_name_here","_law_left"] [] (.tup [0,1]) (gb' (g2 fGt (gr 1) #[15])) WK (gIt (gFz (gSl (gr 3) gNone (gSome (gr 6))))))) (gFz (gSl (gr 3) (gSome (gr 6)) gNone))))) (sSet 5 (g2 fPlus (gr 5) #[15])))))
def Yu:SD:=(sSeq (sSet 3 (gFz (gB fList (gCons' (gr 0) gNil)))) (sSeq (sSetA 4 (gLst gNil)) (sSeq (sSet 5 (gv 2)) (sSeq (sWhile (gb' (g2 (fEq true) (gr 3) (gFz (gLst gNil)))) Ys) (sRetV 4)))))
def xq:List En->Option En:=mir vg (Yu)
def kB:List Str:=["_law_run_here","_law_ends_here","_law_turn","_law_names","_law_name_here"]
def uR:SD:=(sPutD 1 (gr 4) (gv 2))
def Yz:SD:=(sFor (.name 4) (gIt (gf 3)) uR)
def Y1:SD:=(sSeq (sSetD 1 gNewD) (sSeq (sFor (.tup [2,3]) (gIt (gf 0)) Yz) (sRetVD 1)))
def wA:List En->Option En:=mir kB (Y1)
def jX:List Str:=["_law_queue","_law_side","_law_begin","_law_promises_here","_law_run_here","_law_ends_here","_law_name_here","_law_left"]
def xC:SD:=(sIf (gAnd (gb' (gInD false (gr 6) (gk' 3))) (gb' (g2 fGt (gGetD (gk' 5) (gr 6)) (gGetD (gk' 3) (gr 6))))) (sRet (gTup' (gCons' (gc (.str "late")) (gCons' (gv 6) (gCons' (gGetD (gk' 3) (gr 6)) (gCons' (gGetD (gk' 5) (gr 6)) (gCons' (gv 4) gNil))))))) sNext)
def kC:SD:=(sSeq (sSet 4 (gFz (gCall (len? 3 xq) accO (nCons (gn 0) (nCons (gn 1) (nCons (gn 2) nNil)))))) (sSeq (sSetD 5 (gCall (len? 1 wA) dctO (nCons (gn 4) nNil))) (sSeq (sFor (.tup [6,7]) (gIt (gf 0)) xC) (sRet (gTup' (gCons' (gc (.str "granted")) gNil))))))
def ww:List En->Option En:=mir jX (kC)
def kW:List Str:=["_law_script","_law_at_here","_law_queue","_law_side","_law_begin","_law_ends_here","_law_slack","_law_promises_here","_law_k","_law_ticket","_law_more"]
def xQ:SD:=(sSeq (sSet 10 (g2 fItem (gr 6) (g2 fPlus (gr 8) #[15]))) (sIf (gb' (g2 fLt (gr 10) (gc (.int 10)))) (sPutD 7 (g2 fItem (gr 9) (gc (.int 0))) (g2 fPlus (gGetD (gk' 5) (g2 fItem (gr 9) (gc (.int 0)))) (g2 fMod (gr 10) (gc (.int 7))))) (sIf (gAnd (gb' (g2 (fEq false) (gr 10) (gc (.int 10)))) (gb' (g2 (fEq false) (g2 fItem (gr 6) (gc (.int 0))) (gc (.int 3))))) (sPutD 7 (g2 fItem (gr 9) (gc (.int 0))) (g2 fSub (g2 fSub (gGetD (gk' 5) (g2 fItem (gr 9) (gc (.int 0)))) #[15]) (g2 fMod (gr 8) (gc (.int 3))))) sNext)))
def Zd:SD:=(sSeq (sSetD 5 (gCall (len? 1 wA) dctO (nCons (gVal (gFz (gCall (len? 3 xq) accO (nCons (gn 2) (nCons (gn 3) (nCons (gn 4) nNil)))))) nNil))) (sSeq (sSet 6 (gFz (gCall (len? 3 yq) accO (nCons (gn 0) (nCons (gn 1) (nCons (gVal (gFz (g2 fCatS (gFz (gLst (gCons' (gc (.int 4)) gNil))) (gFz (g2 fRep (gFz (gLst (gCons' (gc (.int 12)) gNil))) (gB fLen (gCons' (gr 2) gNil))))))) nNil)))))) (sSeq (sSetD 7 (gLit1 "nobody" 0)) (sSeq (sFor (.tup [8,9]) (gEn (gCons' (gf 2) gNil)) xQ) (sRetVD 7)))))
def jQ:List En->Option En:=mir kW (Zd)
def qC:List Str:=["_law_found","_law_due_here"]
def YT:SD:=(sRet (gAndV (gIs "bool" (gr 0)) (g2 (fEq false) (gr 0) (gr 1))))
def wW:List En->Option En:=mir qC (YT)
def qt:List Str:=["_law_queue","_law_hours_here","_law_begin","_law_promises_here","_law_turns_here","_law_found","_law_word","e"]
def kd (C:Str->Addr):SD:=(sSeq (sSet 5 (gc .non)) (sSeq (sSet 6 (gc (.str "good"))) (sSeq (sTryV [⟨some 7,[("NoNumber",[(6,jCon "number")])]⟩] (sSet 5 (gCall (len? 6 (xp C)) frzO (nCons (gn 0) (nCons (gn 1) (nCons (gn 2) (nCons (gn 3) (nCons (gVal (g2 fItem (gr 4) (gc (.int 0)))) (nCons (gVal (g2 fItem (gr 4) #[15])) nNil)))))))) (yE (yCall vX (nCons (gn 0) (nCons (gn 1) (nCons (gn 2) (nCons (gn 3) (nCons (gVal (g2 fItem (gr 4) (gc (.int 0)))) (nCons (gVal (g2 fItem (gr 4) #[15])) nNil))))))))) (sRet (gTup' (gCons' (gv 6) (gCons' (gv 5) gNil)))))))
def xy (C:Str->Addr):List En->Option En:=mir qt (kd C)
def w4:List Str:=["_law_thing","_law_low","_law_high"]
def vi:SD:=(sRet (gAndV (gIs "int" (gr 0)) (gAndV (gNotV (gIs "bool" (gr 0))) (g3 fLe fLe (gr 1) (gr 0) (gr 2)))))
def xl:List En->Option En:=mir w4 (vi)
def wo:List Str:=["_law_begin","_law_turns_here","_law_first","_law_last"]
def vo:SD:=(sSeq (sAsgL [2,3] (gv 1)) (sSeq (sIf (gOr (gNot (gt (gCall (len? 3 xl) frzO (nCons (gn 2) (nCons (gn 0) (nCons (gVal (g2 fPow (gc (.int 10)) (gc (.int 5)))) nNil)))))) (gNot (gt (gCall (len? 3 xl) frzO (nCons (gn 3) (nCons (gn 2) (nCons (gVal (g2 fPow (gc (.int 10)) (gc (.int 5)))) nNil))))))) (sRet (gc (.bl false))) sNext) (sRet (g2 fLt (g2 fSub (gr 3) (gr 2)) (gc (.int 50))))))
def yz:List En->Option En:=mir wo (vo)
def jS:List Str:=["_law_queue","_law_side","_law_begin","_law_promises_here","_law_turns_here","_law_turn"]
def wN:SD:=(sIf (gb' (g2 (fEq false) (gCall (len? 2 zY) frzO (nCons (gn 1) (nCons (gn 5) nNil))) (gc (.int 0)))) (sRet (gTup' (gCons' (gc (.str "no counter")) (gCons' (gv 5) gNil)))) sNext)
def ul:SD:=(sSeq (sFor (.name 5) (gR2 (gCons' (g2 fItem (gr 4) (gc (.int 0))) (gCons' (g2 fPlus (g2 fItem (gr 4) #[15]) #[15]) gNil))) wN) (sRet (gCall (len? 4 ww) frzO (nCons (gn 0) (nCons (gVal (gTup' (gCons' (g2 fItem (gr 1) (gc (.int 0))) (gCons' (g2 fItem (gr 1) #[15]) (gCons' (g2 fItem (gr 4) (gc (.int 0))) (gCons' (g2 fItem (gr 4) #[15]) gNil)))))) (nCons (gn 2) (nCons (gn 3) nNil)))))))
def xk:List En->Option En:=mir jS (ul)
def x3:List Str:=["_law_begin","_law_drawn","_law_near","_law_long","_law_odd","_law_other","_law_kind","_law_first","_law_last"]
def wI:SD:=(sSeq (sAsgL [2,3,4,5,6] (gv 1)) (sSeq (sSet 7 (g2 fPlus (gr 0) (gr 2))) (sSeq (sSet 8 (g2 fPlus (gr 7) (g2 fItem (gFz (gLst (gCons' (g2 fMod (gr 3) (gc (.int 8))) (gCons' (gv 3) gNil)))) (gB fInt (gCons' (g2 (fEq false) (gr 5) (gc (.int 3))) gNil))))) (sSeq (sIf (gAnd (gb' (g2 (fEq false) (gr 4) (gc (.int 6)))) (gb' (g2 fLt (gr 6) (gc (.int 6))))) (sSeq (sSet 7 (g2 fItem (gFz (gLst (gCons' (gc .non) (gCons' (gc (.bl true)) (gCons' (gc (.str "4")) (gCons' (g2 fSub (gr 0) #[15]) (gCons' (g2 fPow (gc (.int 10)) (gc (.int 5))) (gCons' (g2 fPlus (g2 fPow (gc (.int 10)) (gc (.int 5))) #[15]) gNil)))))))) (gr 6))) (sSet 8 (g2 fItem (gFz (gLst (gCons' (gv 7) (gCons' (g2 fPow (gc (.int 10)) (gc (.int 5))) gNil)))) (gB fInt (gCons' (g2 fLt (gr 6) (gc (.int 3))) gNil))))) (sIf (gb' (g2 (fEq false) (gr 4) (gc (.int 7)))) (sSet 8 (g2 fItem (gFz (gLst (gCons' (gc .non) (gCons' (gc (.bl false)) (gCons' (g2 fSub (gr 7) #[15]) (gCons' (g2 fPlus (gr 7) (gc (.int 50))) (gCons' (g2 fPlus (gr 7) (gc (.int 49))) (gCons' (g2 fPow (gc (.int 10)) (gc (.int 20))) gNil)))))))) (g2 fMod (gr 6) (gc (.int 6))))) sNext)) (sRetA (gLst (gCons' (gv 7) (gCons' (gv 8) gNil))))))))
def yQ:List En->Option En:=mir x3 (wI)
def jD:List Str:=["_law_found","_law_side","_law_turns_here","_law_due_here","_law_booked_side","_law_turn"]
def kL (C:Str->Addr):SD:=(sIf (gb' (g2 (fEq true) (gMeth #[5] "at" (len? 2 (xj C)) frzO (yAlt (gFld #[16] "hours" (gv 0)) (yAlt (gFld (C "Late") "hours" (gv 0)) (gFld #[12] "hours" (gv 0)))) (nCons (gn 5) nNil)) (gCall (len? 2 zY) frzO (nCons (gn 4) (nCons (gn 5) nNil))))) (sRet (gc (.bl false))) sNext)
def u5 (C:Str->Addr):SD:=(sSeq (sSet 4 (gTup' (gCons' (g2 fItem (gr 1) (gc (.int 0))) (gCons' (g2 fItem (gr 1) #[15]) (gCons' (g2 fItem (gr 2) (gc (.int 0))) (gCons' (g2 fItem (gr 2) #[15]) gNil)))))) (sSeq (sIf (gb' (g2 (fEq false) (g2 fItem (gr 3) (gc (.int 0))) (gc (.str "no counter")))) (sSet 4 (gv 1)) sNext) (sSeq (sFor (.name 5) (gIt (gFz (gLst (gCons' (g2 fItem (gr 2) (gc (.int 0))) (gCons' (g2 fItem (gr 2) #[15]) (gCons' (g2 fPlus (g2 fItem (gr 2) #[15]) #[15]) (gCons' (gB fMax (gCons' (gc (.int 0)) (gCons' (g2 fSub (g2 fItem (gr 2) (gc (.int 0))) #[15]) gNil))) (gCons' (g2 fPow (gc (.int 10)) (gc (.int 6))) gNil)))))))) (kL C)) (sRet (gc (.bl true))))))
def xR (C:Str->Addr):List En->Option En:=mir jD (u5 C)
def q9:List Str:=["_law_script","_law_queue","_law_rows","_law_rest","_law_begin","_law_side","_law_hours_here","_law_promises_here","_law_at_here","_law_turns_here","_law_handed","_law_some","_law_word","_law_found","_law_due_here"]
def vY (C:Str->Addr):SD:=(sSeq (sSet 9 (gFz (gCall (len? 2 yQ) accO (nCons (gn 4) (nCons (gVal (gFz (gCall (len? 3 yq) accO (nCons (gn 0) (nCons (gn 8) (nCons (gVal (gFz (gLst (gCons' (gc (.int 30)) (gCons' (gc (.int 53)) (gCons' (gc (.int 8)) (gCons' (gc (.int 4)) (gCons' (gc (.int 8)) gNil)))))))) nNil)))))) nNil))))) (sSeq (sSetA 10 (gB fList (gCons' (gr 1) gNil))) (sSeq (sSetD 11 (gk' 7)) (sSeq (sAsg (.tup [12,13]) (gCall (len? 5 (xy C)) frzO (nCons (gn 10) (nCons (gn 6) (nCons (gn 4) (nCons (gn 11) (nCons (gn 9) nNil))))))) (sSeq (sIf (gOr (gb' (g2 (fEq true) (gr 10) (gr 1))) (gb' (gEqD true (gk' 11) (gk' 7)))) (sRet (gc (.bl false))) sNext) (sSeq (sMut 10 mClear gNil) (sSeq (sClrD 11) (sIf (gNot (gt (gCall (len? 2 yz) frzO (nCons (gn 4) (nCons (gn 9) nNil))))) (sIf (gb' (g2 (fEq true) (gr 12) (gc (.str "number")))) (sRet (gc (.bl false))) sNext) #[36]))))))))
def Ze (C:Str->Addr):SD:=(sSeq (sAsg (.tup [1,2,3,4]) (gCall (len? 1 qw) frzO (nCons (gn 0) nNil))) (sSeq (sSet 5 (gTup' (gCons' (gv 2) (gCons' (gv 3) (gCons' #[15] (gCons' (gc (.int 0)) gNil)))))) (sSeq (sSet 6 (gMake #[5] 2 (xw C) (nCons (gVal (gFz (gB fList (gCons' (gr 2) gNil)))) (nCons (gn 3) nNil)))) (sSeq (sSetD 7 (gCall (len? 5 jQ) dctO (nCons (gn 0) (nCons (gVal (gc (.int 5))) (nCons (gn 1) (nCons (gn 5) (nCons (gn 4) nNil))))))) (sSeq (sFor (.name 8) (gR2 (gCons' (gc (.int 6)) (gCons' (gB fMin (gCons' (gB fLen (gCons' (gr 0) gNil)) (gCons' (gc (.int 40)) gNil))) gNil))) (vY C)) (sRet (gc (.bl true))))))))
def Wc (C:Str->Addr):List En->Option En:=mir q9 (Ze C)
structure Txt (K:PySem.W.Frag)(mg:Str->Option Value)(C:Str->Addr):Prop where
 cl_Granted:Cls K #[16]
 cl_Hours:Cls K #[5]
 cl_Late:Cls K (C "Late")
 cl_NoRoom:Cls K #[12]
 k0_Granted_Late:kitOne K (.ref #[16]) (.ref (C "Late"))=some false
 k0_Granted_NoRoom:kitOne K (.ref #[16]) (.ref #[12])=some false
 k0_Late_NoRoom:kitOne K (.ref (C "Late")) (.ref #[12])=some false
 mg_Verdict:mg "Verdict" = some (.ref (C "Verdict"))
 n_Granted_begin:NoAttr K #[16] "begin"
 n_Granted_hours:NoAttr K #[16] "hours"
 n_Granted_queue:NoAttr K #[16] "queue"
 n_Hours_kept_rest:NoAttr K #[5] "kept_rest"
 n_Hours_spans:NoAttr K #[5] "spans"
 n_Late_begin:NoAttr K (C "Late") "begin"
 n_Late_hours:NoAttr K (C "Late") "hours"
 n_Late_name:NoAttr K (C "Late") "name"
 n_Late_promised:NoAttr K (C "Late") "promised"
 n_Late_queue:NoAttr K (C "Late") "queue"
 n_Late_run:NoAttr K (C "Late") "run"
 n_Late_turn:NoAttr K (C "Late") "turn"
 n_NoRoom_begin:NoAttr K #[12] "begin"
 n_NoRoom_hours:NoAttr K #[12] "hours"
 n_NoRoom_queue:NoAttr K #[12] "queue"
 n_NoRoom_turn:NoAttr K #[12] "turn"
 b_ValueError:mg "ValueError" = none
 b_all:mg "all" = none
 b_bool:mg "bool" = none
 b_dict:mg "dict" = none
 b_enumerate:mg "enumerate" = none
 b_int:mg "int" = none
 b_isinstance:mg "isinstance" = none
 b_len:mg "len" = none
 b_list:mg "list" = none
 b_max:mg "max" = none
 b_min:mg "min" = none
 b_range:mg "range" = none
 b_tuple:mg "tuple" = none
 c_GREATEST_TURN':∃t,mg "GREATEST_TURN" = some (.int 100000 t)
 c_MOST_BOOKED':∃t,mg "MOST_BOOKED" = some (.int 50 t)
 c_MOST_COUNTERS':∃t,mg "MOST_COUNTERS" = some (.int 8 t)
 c_MOST_ROWS':∃t,mg "MOST_ROWS" = some (.int 16 t)
 c_MOST_TURNS':∃t,mg "MOST_TURNS" = some (.int 100 t)
structure Exs (P:Program)(w:World)(K:PySem.W.Frag)(mg:Str->Option Value)(base:Heap)(ca:Str->Addr):Prop where
 is_NoNumber:XI K (ca "NoNumber")
 m_HallError:mg "HallError" = some (.ref (ca "HallError"))
 m_NoNumber:mg "NoNumber" = some (.ref (ca "NoNumber"))
 t1_NoNumber_ValueError:kitOne K (.ref (ca "NoNumber")) (.type "ValueError")=some true
 x_NoNumber:XC0 K (ca "NoNumber")
 y_NoNumber_HallError:XM K (ca "NoNumber") (ca "HallError")
 z1_NoNumber_NoNumber:kitOne K (.ref (ca "NoNumber")) (.ref (ca "NoNumber"))=some true
section
variable {P:Program}{w:World}{K:PySem.W.Frag}{mg:Str->Option Value}{base:Heap}{C:Str->Addr}
theorem QP:FnScope ["thing"] ["thing"] (zd vC):=#[10]
theorem zdg {f:Addr}{fd:FuncData}(T:Txt K mg C)(F:Fun K "is_whole" "is_whole" vC f fd):FnOk P w K mg base CX0 1 f fd ["thing"] (pSp ⟨K,w⟩ 1 (len? 1 (mir ["thing"] wc))):=by
 have sc:=QP
 refine zv (k:=0) F QP (λcdv A outer s H E B hr=>?_)
 exact (zg (zx (wx (wB (kitT "int" #[7]) #[0] T.b_isinstance #[0] T.b_int #[13] (za 0)) (wQ (Qp (wB (kitT "bool" #[7]) #[0] T.b_isinstance #[0] T.b_bool #[13] (za 0)))))))
theorem Wz:FnScope xS ["thing","low","high"] (zd wM):=#[10]
theorem zfa {f:Addr}{fd:FuncData}(T:Txt K mg C)(F:Fun K "is_number" "is_number" wM f fd) (Ha4:Fx P w K mg base "is_whole" 1 1 yY):FnOk P w K mg base CX0 2 f fd ["thing","low","high"] (pSp ⟨K,w⟩ 3 (len? 3 (mir xS w5))):=by
 have sc:=Wz
 refine zv (k:=1) F Wz (λcdv A outer s H E B hr=>?_)
 exact (zg (zx (wx (zz Ha4 #[4] #[0] (zb (ze 0) zj)) (wQ (Yw xL xL xP xP (za 1) (za 0) (za 2))))))
theorem Q0:FnScope ["thing"] ["thing"] (zd wP):=#[10]
theorem zc1 {f:Addr}{fd:FuncData}(T:Txt K mg C)(F:Fun K "is_row" "is_row" wP f fd) (Ha2:Fx P w K mg base "is_number" 2 3 zN):FnOk P w K mg base CX0 3 f fd ["thing"] (pSp ⟨K,w⟩ 1 (len? 1 (mir ["thing"] Zr))):=by
 obtain⟨tok_MOST_COUNTERS,t_MOST_COUNTERS⟩:=T.c_MOST_COUNTERS'
 obtain⟨tok_MOST_TURNS,t_MOST_TURNS⟩:=T.c_MOST_TURNS'
 have sc:=Q0
 refine zv (k:=2) F Q0 (λcdv A outer s H E B hr=>?_)
 exact (zf (zA (yt (wv (yf (zS (DE.read (wB (kitT "tuple" #[7]) #[0] T.b_isinstance #[0] T.b_tuple #[13] (za 0))) (by intro _;rfl))) (vJ (z8 (wu hr.units) zL (DE.read (xN #[0] T.b_len (z6 (za 0) zC))) de_int.read (nomark _))))) (zg (zx yi)) zE) (zg (zx (wx (zz Ha2 #[4] #[0] (zb (zl (zu (za 0) de_int.read #[14])) (zb (zl de_int) (zb (zl (y2 (v:=.int 100) #[0] t_MOST_TURNS (by exact⟨_,rfl⟩) (by intro _;rfl))) zj)))) (wQ (zz Ha2 #[4] #[0] (zb (zl (zu (za 0) de_int.read #[14])) (zb (zl de_int) (zb (zl (y2 (v:=.int 8) #[0] t_MOST_COUNTERS (by exact⟨_,rfl⟩) (by intro _;rfl))) zj)))))))))
theorem VZ:FnScope jR ["rows","rest"] (zd wn):=#[10]
theorem zcd {f:Addr}{fd:FuncData}(T:Txt K mg C)(F:Fun K "check_hours" "check_hours" wn f fd) (Ha2:Fx P w K mg base "is_number" 2 3 zN) (Ha3:Fx P w K mg base "is_row" 3 1 qv):FnOk P w K mg base CX0 4 f fd ["rows","rest"] (pSp ⟨K,w⟩ 2 (len? 2 (mir jR Yc))):=by
 obtain⟨tok_MOST_COUNTERS,t_MOST_COUNTERS⟩:=T.c_MOST_COUNTERS'
 obtain⟨tok_MOST_ROWS,t_MOST_ROWS⟩:=T.c_MOST_ROWS'
 have sc:=VZ
 refine zv (k:=3) F VZ (λcdv A outer s H E B hr=>?_)
 exact (zf (zA (yt (wv (yf (zS (DE.read (wB (kitT "list" #[7]) #[0] T.b_isinstance #[0] T.b_list #[13] (za 0))) (by intro _;rfl))) (vJ (z8 wO vf (DE.read (xN #[0] T.b_len (z6 (za 0) zC))) (DE.read (y2 (v:=.int 16) #[0] t_MOST_ROWS (by exact⟨_,rfl⟩) (by intro _;rfl))) (nomark _))))) (zg yW) zE) (zf (zA (yf (zS (DE.read (RU #[0] #[0] T.b_all (z6 (DA.read (qg (own:=["row"]) (cap:=[]) (t:=(.name 0)) #[0] (wF (sc:=(zd wn).names) (N:=jR) #[0] #[0] #[0] #[13]) (zV hb1 (DR.cur (za 0))) #[7] (λB' C' s₀ H₀ fp pn=>⟨(zm (i:=0) (show List.Nodup (["row"]:List Str) from by decide +kernel) #[0] #[2]),jB,(zz Ha3 #[4] #[0] (zb (ze 0) zj))⟩))) zC))) (by intro _;rfl))) (zg yW) zE) (zg (zA (yf (zS (DE.read (zz Ha2 #[4] #[0] (zb (ze 1) (zb (zl de_int) (zb (zl (y2 (v:=.int 8) #[0] t_MOST_COUNTERS (by exact⟨_,rfl⟩) (by intro _;rfl))) zj))))) (by intro _;rfl))) (zg yW) zE))))
theorem QJ:FnScope jK ["rows","rest"] (zd vy):=#[10]
theorem Us {f:Addr}{fd:FuncData}(T:Txt K mg C)(F:Fun K "kept_rows" "kept_rows" vy f fd):FnOk P w K mg base CX0 1 f fd ["rows","rest"] (pSp ⟨K,w⟩ 2 (len? 2 (mir jK kI))):=by
 have sc:=QJ
 refine zv (k:=0) F QJ (λcdv A outer s H E B hr=>?_)
 exact (zf (yB (i:=2) sc.nd #[0] #[2] (zF zw)) (zf (zU (t:=(.tup [3,4])) PassesOwn.never #[0] (zV hb0 (yu 0 (pv 0))) (zO #[0] (zo (zm (i:=3) sc.nd #[0] #[2]) (zo (zm (i:=4) sc.nd #[0] #[2]) zI))) (zg (zA (yt (xu (zS (za 2) (by intro _;rfl)) (wp (z8 (yb hr.units) zL (DE.read (zu (DE.read (zu (za 2) (DE.read (vW de_int.read)) #[14])) de_int.read #[14])) (za 4) (nomark _))))) (zg (zfh 2 (pv 2) (vW de_int.read) (zK (zi (zB (DE.read (zu (DE.read (zu (za 2) (DE.read (vW de_int.read)) #[14])) de_int.read #[14])) (za 3)) (zi (zh 4) zw))))) (zg (zA (z8 wO vf (za 3) de_int.read (nomark _)) (zg (yy 2 (pv 2) (zK (zi (zh 3) (zi (zh 4) zw))))) zE))))) (zf (zA (yt (xu (zS (za 2) (by intro _;rfl)) (wp (z8 (yb hr.units) zL (DE.read (zu (DE.read (zu (za 2) (DE.read (vW de_int.read)) #[14])) de_int.read #[14])) (za 1) (nomark _))))) (zg (zfc 2 Ri (pv 2))) zE) (zg (xK 2 (pv 2))))))
theorem W1:FnScope jV ["rows"] (zd vk):=#[10]
theorem RO {f:Addr}{fd:FuncData}(T:Txt K mg C)(F:Fun K "spans_of" "spans_of" vk f fd):FnOk P w K mg base CX0 1 f fd ["rows"] (pSp ⟨K,w⟩ 1 (len? 1 (mir jV uw))):=by
 have sc:=W1
 refine zv (k:=0) F W1 (λcdv A outer s H E B hr=>?_)
 exact (zf (yB (i:=1) sc.nd #[0] #[2] (zF zw)) (zf (zq (i:=2) sc.nd #[0] #[2] de_int) (zf (zU (t:=(.tup [3,4])) PassesOwn.never #[0] (zV hb0 (yu 0 (pv 0))) (zO #[0] (zo (zm (i:=3) sc.nd #[0] #[2]) (zo (zm (i:=4) sc.nd #[0] #[2]) zI))) (zf (yy 1 (pv 1) (zK (zi (zh 2) (zi (zB (za 2) (za 3)) (zi (zh 4) zw))))) (zg (zq (i:=2) sc.nd #[0] #[2] (zB (za 2) (za 3)))))) (zg (xK 1 (pv 1))))))
theorem QU:FnScope u8 ["spans","first","last","change"] (zd vA):=#[10]
theorem Gh {f:Addr}{fd:FuncData}(T:Txt K mg C)(F:Fun K "cut_rows" "cut_rows" vA f fd):FnOk P w K mg base CX0 1 f fd ["spans","first","last","change"] (pSp ⟨K,w⟩ 4 (len? 4 (mir u8 Zf))):=by
 have sc:=QU
 refine zv (k:=0) F QU (λcdv A outer s H E B hr=>?_)
 exact (zf (yB (i:=4) sc.nd #[0] #[2] (zF zw)) (zf (zU (t:=(.tup [5,6,7])) PassesOwn.never #[0] (zV hb0 (yu 0 (pv 0))) (zO #[0] (zo (zm (i:=5) sc.nd #[0] #[2]) (zo (zm (i:=6) sc.nd #[0] #[2]) (zo (zm (i:=7) sc.nd #[0] #[2]) zI)))) (zf (zq (i:=8) sc.nd #[0] #[2] (vc #[0] #[0] T.b_max (z6 de_int.read (z6 (DE.read (zR (DE.read (Q4 #[0] #[0] T.b_min (z6 (za 6) (z6 (za 1) zC)))) (za 5))) zC)))) (zf (zq (i:=9) sc.nd #[0] #[2] (vc #[0] #[0] T.b_max (z6 de_int.read (z6 (DE.read (zR (za 6) (DE.read (vc #[0] #[0] T.b_max (z6 (za 5) (z6 (DE.read (zB (za 2) de_int.read)) zC)))))) zC)))) (zf (yy 4 (pv 4) (zK (zi (zh 8) (zi (zh 7) zw)))) (zf (yy 4 (pv 4) (zK (zi (zR (DE.read (zR (DE.read (zR (za 6) (za 5))) (za 8))) (za 9)) (zi (zB (za 7) (za 3)) zw)))) (zg (yy 4 (pv 4) (zK (zi (zh 9) (zi (zh 7) zw)))))))))) (zg (xK 4 (pv 4)))))
theorem Kb:FnScope jT ["self","rows","rest"] (zd vt):=#[10]
theorem zax {f:Addr}{fd:FuncData}(T:Txt K mg C)(F:Fun K "__init__" "Hours.__init__" vt f fd) (Hbs:Fx P w K mg base "spans_of" 1 1 yP) (Ha5:Fx P w K mg base "kept_rows" 1 2 yU) (Hay:Fx P w K mg base "check_hours" 4 2 qx):FnOk P w K mg base CX0 5 f fd ["self","rows","rest"] (iSp ⟨K,w⟩ #[5] 2 (mirI #[5] ["self","rows","rest"] (jW C))):=by
 have sc:=Kb
 refine jh (k:=4) F Kb rfl (λcdv A outer s H E B hr=>?_)
 exact (zf (Kg (zz Hay #[4] #[0] (zb (ze 1) (zb (ze 2) zj)))) (zf (yc 0 T.cl_Hours T.n_Hours_kept_rest (pv 0) (zh 2)) (zg (yc 0 T.cl_Hours T.n_Hours_spans (pv 0) (DA.frz (yn Hbs #[4] #[0] (zb (zl (zz Ha5 #[4] #[0] (zb (ze 1) (zb (ze 2) zj)))) zj)))))))
theorem Vt:FnScope ["self"] ["self"] (zd wH):=#[10]
theorem Rc {f:Addr}{fd:FuncData}(T:Txt K mg C)(F:Fun K "rows" "Hours.rows" wH f fd):FnOk P w K mg base CX0 1 f fd ["self"] (pSp ⟨K,w⟩ 1 (len? 1 (mir ["self"] (ZU C)))):=by
 have sc:=Vt
 refine zv (k:=0) F Vt (λcdv A outer s H E B hr=>?_)
 exact (zg (Zi (qg (own:=["start","stop","counters"]) (cap:=[]) (t:=(.tup [0,1,2])) #[0] (wF (sc:=(zd wH).names) (N:=["self"]) #[0] #[0] #[0] #[13]) (zV hb1 (DR.cur (DE.read (z5 T.cl_Hours T.n_Hours_spans (zh 0))))) #[7] (λB' C' s₀ H₀ fp pn=>⟨(zO #[0] (zo (zm (i:=0) (show List.Nodup (["start","stop","counters"]:List Str) from by decide +kernel) #[0] #[2]) (zo (zm (i:=1) (show List.Nodup (["start","stop","counters"]:List Str) from by decide +kernel) #[0] #[2]) (zo (zm (i:=2) (show List.Nodup (["start","stop","counters"]:List Str) from by decide +kernel) #[0] #[2]) zI)))),jB,(zK (zi (zR (za 1) (za 0)) (zi (zh 2) zw)))⟩))))
theorem KM:FnScope ["self"] ["self"] (zd vU):=#[10]
theorem zfu {f:Addr}{fd:FuncData}(T:Txt K mg C)(F:Fun K "end" "Hours.end" vU f fd):FnOk P w K mg base CX0 1 f fd ["self"] (pSp ⟨K,w⟩ 1 (len? 1 (mir ["self"] (ki C)))):=by
 have sc:=KM
 refine zv (k:=0) F KM (λcdv A outer s H E B hr=>?_)
 exact (zg (zx (Qf (zS (DE.read (z5 T.cl_Hours T.n_Hours_spans (zh 0))) (by intro _;rfl)) (zu (DE.read (zu (DE.read (z5 T.cl_Hours T.n_Hours_spans (zh 0))) (DE.read (vW de_int.read)) #[14])) de_int.read #[14]) de_int)))
theorem QK:FnScope qS ["self","turn"] (zd jo):=#[10]
theorem zgd {f:Addr}{fd:FuncData}(T:Txt K mg C)(F:Fun K "at" "Hours.at" jo f fd):FnOk P w K mg base CX0 1 f fd ["self","turn"] (pSp ⟨K,w⟩ 2 (len? 2 (mir qS (Zl C)))):=by
 have sc:=QK
 refine zv (k:=0) F QK (λcdv A outer s H E B hr=>?_)
 exact (zf (zq (i:=2) sc.nd #[0] #[2] de_int) (zf (zq (i:=3) sc.nd #[0] #[2] (xN #[0] T.b_len (z6 (DE.read (z5 T.cl_Hours T.n_Hours_spans (zh 0))) zC))) (zf (Y7 PassesOwn.never (z8 yO yJ (za 2) (za 3) (nomark _)) (zf (zq (i:=4) sc.nd #[0] #[2] (vV (DE.read (zB (za 2) (za 3))) de_int.read)) (zg (zA (z8 yO yJ (za 1) (DE.read (zu (DE.read (zu (DE.read (z5 T.cl_Hours T.n_Hours_spans (zh 0))) (za 4) #[14])) de_int.read #[14])) (nomark _)) (zg (zq (i:=3) sc.nd #[0] #[2] (zh 4))) (zg (zq (i:=2) sc.nd #[0] #[2] (zB (za 4) de_int.read))))))) (zg (zx (Qf (z8 yO yJ (za 2) (DE.read (xN #[0] T.b_len (z6 (DE.read (z5 T.cl_Hours T.n_Hours_spans (zh 0))) zC))) (nomark _)) (zu (DE.read (zu (DE.read (z5 T.cl_Hours T.n_Hours_spans (zh 0))) (za 2) #[14])) de_int.read #[14]) (z5 T.cl_Hours T.n_Hours_kept_rest (zh 0))))))))
theorem Js:FnScope kG ["self","first","last"] (zd jj):=#[10]
theorem za1 {f:Addr}{fd:FuncData}(T:Txt K mg C)(F:Fun K "free" "Hours.free" jj f fd):FnOk P w K mg base CX0 1 f fd ["self","first","last"] (pSp ⟨K,w⟩ 3 (len? 3 (mir kG (ZM C)))):=by
 have sc:=Js
 refine zv (k:=0) F Js (λcdv A outer s H E B hr=>?_)
 exact (zf (zU (t:=(.tup [3,4,5])) PassesOwn.never #[0] (zV hb0 (DE.fix (z5 T.cl_Hours T.n_Hours_spans (zh 0)))) (zO #[0] (zo (zm (i:=3) sc.nd #[0] #[2]) (zo (zm (i:=4) sc.nd #[0] #[2]) (zo (zm (i:=5) sc.nd #[0] #[2]) zI)))) (zf (zq (i:=6) sc.nd #[0] #[2] (vc #[0] #[0] T.b_max (z6 (za 3) (z6 (za 1) zC)))) (zg (zA (yt (xu (z8 (yb hr.units) zL (za 5) de_int.read (nomark _)) (xu (z8 yO yJ (za 6) (za 4) (nomark _)) (wp (z8 xL xP (za 6) (za 2) (nomark _)))))) (zg (xK 6 (pv 6))) zE)))) (zg (zx yZ)))
theorem Qa:FnScope qG ["self","first","last","change"] (zd wZ):=#[10]
theorem Go {f:Addr}{fd:FuncData}(T:Txt K mg C)(F:Fun K "changed" "Hours.changed" wZ f fd) (Hbs:Fx P w K mg base "spans_of" 1 1 yP) (Ha5:Fx P w K mg base "kept_rows" 1 2 yU) (Haz:Fx P w K mg base "cut_rows" 1 4 qy) (Hai:Mx P w K mg base #[5] "end" 1 1 (jw C)) (Hal:Mx P w K mg base #[5] "rows" 1 1 (jA C)) (Haf:Kx P w K mg base #[5] "Hours" 5 2 (xw C)):FnOk P w K mg base CX0 7 f fd ["self","first","last","change"] (pSp ⟨K,w⟩ 4 (len? 4 (mir qG (Ym C)))):=by
 have sc:=Qa
 refine zv (k:=6) F Qa (λcdv A outer s H E B hr=>?_)
 exact (zf (zbe (i:=4) sc.nd #[0] #[2] (zfy Haf #[4] #[0] (zb (zl (DA.frz (zF zw))) (zb (zl (z5 T.cl_Hours T.n_Hours_kept_rest (zh 0))) zj)))) (zf (yB (i:=5) sc.nd #[0] #[2] (UK (zh 0) T.cl_Hours Hal #[4])) (zf (zA (z8 xL xP (za 1) (za 2) (nomark _)) (zf (yy 5 (pv 5) (zK (zi (vc #[0] #[0] T.b_max (z6 de_int.read (z6 (DE.read (zR (DE.read (zB (za 2) de_int.read)) (DE.read (zX (zh 0) T.cl_Hours Hai #[4])))) zC))) (zi (z5 T.cl_Hours T.n_Hours_kept_rest (zh 0)) zw)))) (zg (yB (i:=5) sc.nd #[0] #[2] (yn Haz #[4] #[0] (zb (zl (DA.frz (yn Hbs #[4] #[0] (zb (ze 5) zj)))) (zb (ze 1) (zb (ze 2) (zb (ze 3) zj)))))))) zE) (zf (zbj 4 T.cl_Hours T.n_Hours_spans (pv 4) (DA.frz (yn Hbs #[4] #[0] (zb (zl (zz Ha5 #[4] #[0] (zb (ze 5) (zb (zl (z5 T.cl_Hours T.n_Hours_kept_rest (zh 0))) zj)))) zj)))) (zg (UD 4 (pv 4)))))))
theorem Ji:FnScope u6 ["self","first","last"] (zd j3):=#[10]
theorem zaz {f:Addr}{fd:FuncData}(T:Txt K mg C)(F:Fun K "less" "Hours.less" j3 f fd) (Hah:Mx P w K mg base #[5] "changed" 7 4 (qi C)) (Haj:Mx P w K mg base #[5] "free" 1 3 (xY C)):FnOk P w K mg base CX0 8 f fd ["self","first","last"] (pSp ⟨K,w⟩ 3 (len? 3 (mir u6 (ZQ C)))):=by
 have sc:=Ji
 refine zv (k:=7) F Ji (λcdv A outer s H E B hr=>?_)
 exact (zf (zq (i:=3) sc.nd #[0] #[2] (yH (zh 0) T.cl_Hours Haj #[4] (zb (ze 1) (zb (ze 2) zj)))) (zf (zA (z8 WA Vw (za 3) (DE.read yZ) (nomark _)) (zg yW) zE) (zg (zx (yH (zh 0) T.cl_Hours Hah #[4] (zb (ze 1) (zb (ze 2) (zb (zl (vW de_int.read)) zj))))))))
theorem JM:FnScope ["queue"] ["queue"] (zd wL):=#[10]
theorem zgt {f:Addr}{fd:FuncData}(T:Txt K mg C)(F:Fun K "names_of" "names_of" wL f fd):FnOk P w K mg base CX0 1 f fd ["queue"] (pSp ⟨K,w⟩ 1 (len? 1 (mir ["queue"] YI))):=by
 have sc:=JM
 refine zv (k:=0) F JM (λcdv A outer s H E B hr=>?_)
 exact (zg (Zi (qg (own:=["name","left"]) (cap:=[]) (t:=(.tup [0,1])) #[0] (wF (sc:=(zd wL).names) (N:=["queue"]) #[0] #[0] #[0] #[13]) (zV hb1 (DR.cur (za 0))) #[7] (λB' C' s₀ H₀ fp pn=>⟨(zO #[0] (zo (zm (i:=0) (show List.Nodup (["name","left"]:List Str) from by decide +kernel) #[0] #[2]) (zo (zm (i:=1) (show List.Nodup (["name","left"]:List Str) from by decide +kernel) #[0] #[2]) zI))),jB,(zh 0)⟩))))
theorem K4:FnScope v2 ["queue","many"] (zd wG):=#[10]
theorem zbt {f:Addr}{fd:FuncData}(T:Txt K mg C)(F:Fun K "turn_served" "turn_served" wG f fd) (Hbn:Fx P w K mg base "names_of" 1 1 qm):FnOk P w K mg base CX0 2 f fd ["queue","many"] (pSp ⟨K,w⟩ 2 (len? 2 (mir v2 uq))):=by
 have sc:=K4
 refine zv (k:=1) F K4 (λcdv A outer s H E B hr=>?_)
 exact (zf (zq (i:=2) sc.nd #[0] #[2] (DA.frz (vP (za 0) x0 (xA (za 1))))) (zf (zfi (i:=3) (own:=["name","left"]) (cap:=[]) (t:=(.tup [0,1])) #[0] (wF (sc:=(zd wG).names) (N:=v2) #[0] #[0] #[0] #[13]) (zV hb1 (DR.cur (za 2))) #[7] (λB' C' s₀ H₀ fp pn=>⟨(zO #[0] (zo (zm (i:=0) (show List.Nodup (["name","left"]:List Str) from by decide +kernel) #[0] #[2]) (zo (zm (i:=1) (show List.Nodup (["name","left"]:List Str) from by decide +kernel) #[0] #[2]) zI))),(Ki (z8 wO vf (za 1) de_int.read (nomark _))),(zK (zi (zh 0) (zi (zR (za 1) de_int.read) zw)))⟩) sc.nd #[0] #[2]) (zg (zx (zK (zi (DA.frz (yn Hbn #[4] #[0] (zb (ze 2) zj))) (zi (DA.frz (u9 (za 3) (DA.read (vP (za 0) (xA (za 1)) x0)))) zw)))))))
theorem Jh:FnScope uj ["queue","hours","begin","real"] (zd yV):=#[10]
theorem ze4 {f:Addr}{fd:FuncData}(T:Txt K mg C)(F:FunD K "run_of" "run_of" yV f fd) (Hbt:Fx P w K mg base "turn_served" 2 2 xh) (Hag:Mx P w K mg base #[5] "at" 1 2 (xj C)):FnOk P w K mg base CX0 3 f fd ["queue","hours","begin","real"] (pSp ⟨K,w⟩ 4 (len? 4 (mir uj (Z1 C)))):=by
 have sc:=Jh
 refine zfn (k:=2) F Jh (λcdv A outer s H E B hr=>?_)
 exact (zf (Gk (i:=4) sc.nd #[0] #[2] (zep (z8 KO WF (za 3) (DE.read yZ) (nomark _)) (RW 0 (pv 0)) (Rv zdw))) (zf (yB (i:=5) sc.nd #[0] #[2] (zF zw)) (zf (Y7 PassesOwn.never (zS (za 4) (by intro _;rfl)) (zf (zq (i:=6) sc.nd #[0] #[2] (zB (za 2) (DE.read (xN #[0] T.b_len (z6 (za 5) zC))))) (zf (zq (i:=7) sc.nd #[0] #[2] (zz Hbt #[4] #[0] (zb (ze 4) (zb (zl (yH (zh 1) T.cl_Hours Hag #[4] (zb (ze 6) zj))) zj)))) (zf (yy 5 (pv 5) (zK (zi (zh 6) (zi (zu (za 7) de_int.read #[14]) zw)))) (zg (zq (i:=4) sc.nd #[0] #[2] (zu (za 7) de_int.read #[14]))))))) (zg (xK 5 (pv 5))))))
theorem Jg:FnScope kR ["rows"] (zd vZ):=#[10]
theorem zgy {f:Addr}{fd:FuncData}(T:Txt K mg C)(F:Fun K "ends_of" "ends_of" vZ f fd):FnOk P w K mg base CX0 1 f fd ["rows"] (pSp ⟨K,w⟩ 1 (len? 1 (mir kR Zg))):=by
 have sc:=Jg
 refine zv (k:=0) F Jg (λcdv A outer s H E B hr=>?_)
 exact (zf (xt (j:=1) sc.nd #[0] #[2] Wq) (zf (zU (t:=(.tup [2,3])) PassesOwn.never #[0] (zV hb0 (yu 0 (pv 0))) (zO #[0] (zo (zm (i:=2) sc.nd #[0] #[2]) (zo (zm (i:=3) sc.nd #[0] #[2]) zI))) (zg (zU (t:=(.name 4)) PassesOwn.never #[0] (zV hb0 (yu 3 (pv 3))) (zm (i:=4) sc.nd #[0] #[2]) (zg (qO 1 (pv 1) (za 4) (zh 2)))))) (zg (Yd 1 (pv 1)))))
theorem QD:FnScope ["self"] ["self"] (zd vT):=#[10]
theorem zhp {f:Addr}{fd:FuncData}(T:Txt K mg C)(F:Fun K "granted" "Granted.granted" vT f fd):FnOk P w K mg base CX0 1 f fd ["self"] (pSp ⟨K,w⟩ 1 (len? 1 (mir ["self"] (Z4 C)))):=by
 have sc:=QD
 refine zv (k:=0) F QD (λcdv A outer s H E B hr=>?_)
 exact (zg (zx yi))
theorem QN:FnScope ["self"] ["self"] (zd jg):=#[10]
theorem zfs {f:Addr}{fd:FuncData}(T:Txt K mg C)(F:Fun K "word" "Granted.word" jg f fd):FnOk P w K mg base CX0 1 f fd ["self"] (pSp ⟨K,w⟩ 1 (len? 1 (mir ["self"] (YM C)))):=by
 have sc:=QN
 refine zv (k:=0) F QN (λcdv A outer s H E B hr=>?_)
 exact (zg (zx zZ))
theorem Q1:FnScope vv ["self","queue","hours","begin"] (zd jy):=#[10]
theorem Rw {f:Addr}{fd:FuncData}(T:Txt K mg C)(F:Fun K "__init__" "Verdict.__init__" jy f fd):FnOk P w K mg base CX0 1 f fd ["self","queue","hours","begin"] (iSp ⟨K,w⟩ #[16] 3 (mirI #[16] ["self","queue","hours","begin"] (qK C))):=by
 have sc:=Q1
 refine jh (k:=0) F Q1 rfl (λcdv A outer s H E B hr=>?_)
 exact (zf (yc 0 T.cl_Granted T.n_Granted_queue (pv 0) (DA.frz (wj #[0] T.b_list (z6 (za 1) zC)))) (zf (yc 0 T.cl_Granted T.n_Granted_hours (pv 0) (zh 2)) (zg (yc 0 T.cl_Granted T.n_Granted_begin (pv 0) (zh 3)))))
theorem Qz:FnScope ["self"] ["self"] (zd vp):=#[10]
theorem zbb {f:Addr}{fd:FuncData}(T:Txt K mg C)(F:Fun K "told" "Verdict.told" vp f fd) (Hae:Mx P w K mg base #[16] "word" 1 1 (kQ C)):FnOk P w K mg base CX0 2 f fd ["self"] (pSp ⟨K,w⟩ 1 (len? 1 (mir ["self"] (ZC C)))):=by
 have sc:=Qz
 refine zv (k:=1) F Qz (λcdv A outer s H E B hr=>?_)
 exact (zg (up (kF (yL (DE.tree (zX (zh 0) T.cl_Granted Hae #[4])) u0))))
theorem Jw:FnScope ["self"] ["self"] (zd vj):=#[10]
theorem zev {f:Addr}{fd:FuncData}(T:Txt K mg C)(F:Fun K "word" "NoRoom.word" vj f fd):FnOk P w K mg base CX0 1 f fd ["self"] (pSp ⟨K,w⟩ 1 (len? 1 (mir ["self"] (ZT C)))):=by
 have sc:=Jw
 refine zv (k:=0) F Jw (λcdv A outer s H E B hr=>?_)
 exact (zg (zx zZ))
theorem KN:FnScope ["self"] ["self"] (zd jq):=#[10]
theorem zde {f:Addr}{fd:FuncData}(T:Txt K mg C)(F:Fun K "told" "NoRoom.told" jq f fd) (Hav:Mx P w K mg base #[12] "word" 1 1 (uu C)):FnOk P w K mg base CX0 2 f fd ["self"] (pSp ⟨K,w⟩ 1 (len? 1 (mir ["self"] (ZH C)))):=by
 have sc:=KN
 refine zv (k:=1) F KN (λcdv A outer s H E B hr=>?_)
 exact (zg (up (kF (yL (DE.tree (zX (zh 0) T.cl_NoRoom Hav #[4])) (yL (DE.tree (z5 T.cl_NoRoom T.n_NoRoom_turn (zh 0))) u0)))))
theorem Ql:FnScope xO ["self","promises"] (zd vq):=#[10]
theorem zdt {f:Addr}{fd:FuncData}(T:Txt K mg C)(F:Fun K "holds" "NoRoom.holds" vq f fd) (Hag:Mx P w K mg base #[5] "at" 1 2 (xj C)):FnOk P w K mg base CX0 2 f fd ["self","promises"] (pSp ⟨K,w⟩ 2 (len? 2 (mir xO (Yn C)))):=by
 have sc:=Ql
 refine zv (k:=1) F Ql (λcdv A outer s H E B hr=>?_)
 exact (zg (zx (wx (yX YE uS (DE.read (z5 T.cl_NoRoom T.n_NoRoom_turn (zh 0))) (DE.read (z5 T.cl_NoRoom T.n_NoRoom_begin (zh 0))) (nomark _)) (wQ (yX (yb hr.units) zL (DE.read (yH (z5 T.cl_NoRoom T.n_NoRoom_hours (zh 0)) T.cl_Hours Hag #[4] (zb (zl (z5 T.cl_NoRoom T.n_NoRoom_turn (zh 0))) zj))) de_int.read (nomark _))))))
theorem Jr:FnScope ["self"] ["self"] (zd vx):=#[10]
theorem zgh {f:Addr}{fd:FuncData}(T:Txt K mg C)(F:Fun K "granted" "Verdict.granted" vx f fd):FnOk P w K mg base CX0 1 f fd ["self"] (pSp ⟨K,w⟩ 1 (len? 1 (mir ["self"] (ZL C)))):=by
 have sc:=Jr
 refine zv (k:=0) F Jr (λcdv A outer s H E B hr=>?_)
 exact (zg (zx yi))
theorem V9:FnScope vv ["self","queue","hours","begin"] (zd jk):=#[10]
theorem zhe {f:Addr}{fd:FuncData}(T:Txt K mg C)(F:Fun K "__init__" "Verdict.__init__" jk f fd):FnOk P w K mg base CX0 1 f fd ["self","queue","hours","begin"] (iSp ⟨K,w⟩ #[12] 3 (mirI #[12] ["self","queue","hours","begin"] (uH C))):=by
 have sc:=V9
 refine jh (k:=0) F V9 rfl (λcdv A outer s H E B hr=>?_)
 exact (zf (yc 0 T.cl_NoRoom T.n_NoRoom_queue (pv 0) (DA.frz (wj #[0] T.b_list (z6 (za 1) zC)))) (zf (yc 0 T.cl_NoRoom T.n_NoRoom_hours (pv 0) (zh 2)) (zg (yc 0 T.cl_NoRoom T.n_NoRoom_begin (pv 0) (zh 3)))))
theorem Jf:FnScope qR ["self","queue","hours","begin","turn"] (zd vK):=#[10]
theorem G9 {f:Addr}{fd:FuncData}(T:Txt K mg C)(F:Fun K "__init__" "NoRoom.__init__" vK f fd) (b_NoRoom_Verdict:Bo P w K mg base (C "Verdict") #[12] 1 3 (xE C)):FnOk P w K mg base CX0 2 f fd ["self","queue","hours","begin","turn"] (iSp ⟨K,w⟩ #[12] 4 (mirI #[12] ["self","queue","hours","begin","turn"] (ue C))):=by
 have sc:=Jf
 refine jh (k:=1) F Jf rfl (λcdv A outer s H E B hr=>?_)
 exact (zf (JI 0 b_NoRoom_Verdict #[4] #[0] T.mg_Verdict (pv 0) (zb (ze 1) (zb (ze 2) (zb (ze 3) zj)))) (zg (yc 0 T.cl_NoRoom T.n_NoRoom_turn (pv 0) (zh 4))))
theorem Qg:FnScope ["self"] ["self"] (zd vM):=#[10]
theorem zak {f:Addr}{fd:FuncData}(T:Txt K mg C)(F:Fun K "word" "Late.word" vM f fd):FnOk P w K mg base CX0 1 f fd ["self"] (pSp ⟨K,w⟩ 1 (len? 1 (mir ["self"] (ZG C)))):=by
 have sc:=Qg
 refine zv (k:=0) F Qg (λcdv A outer s H E B hr=>?_)
 exact (zg (zx zZ))
theorem K1:FnScope ["self"] ["self"] (zd vE):=#[10]
theorem zfp {f:Addr}{fd:FuncData}(T:Txt K mg C)(F:Fun K "granted" "Verdict.granted" vE f fd):FnOk P w K mg base CX0 1 f fd ["self"] (pSp ⟨K,w⟩ 1 (len? 1 (mir ["self"] (ZN C)))):=by
 have sc:=K1
 refine zv (k:=0) F K1 (λcdv A outer s H E B hr=>?_)
 exact (zg (zx yi))
theorem VO:FnScope vv ["self","queue","hours","begin"] (zd vF):=#[10]
theorem RA {f:Addr}{fd:FuncData}(T:Txt K mg C)(F:Fun K "__init__" "Verdict.__init__" vF f fd):FnOk P w K mg base CX0 1 f fd ["self","queue","hours","begin"] (iSp ⟨K,w⟩ (C "Late") 3 (mirI (C "Late") ["self","queue","hours","begin"] (Zt C))):=by
 have sc:=VO
 refine jh (k:=0) F VO rfl (λcdv A outer s H E B hr=>?_)
 exact (zf (yc 0 T.cl_Late T.n_Late_queue (pv 0) (DA.frz (wj #[0] T.b_list (z6 (za 1) zC)))) (zf (yc 0 T.cl_Late T.n_Late_hours (pv 0) (zh 2)) (zg (yc 0 T.cl_Late T.n_Late_begin (pv 0) (zh 3)))))
theorem WT:FnScope ["rows"] ["rows"] (zd wK):=#[10]
theorem Ra {f:Addr}{fd:FuncData}(T:Txt K mg C)(F:Fun K "own_rows" "own_rows" wK f fd):FnOk P w K mg base CX0 1 f fd ["rows"] (pSp ⟨K,w⟩ 1 (len? 1 (mir ["rows"] Yr))):=by
 have sc:=WT
 refine zv (k:=0) F WT (λcdv A outer s H E B hr=>?_)
 exact (zg (up (zcm (own:=["turn","names"]) (cap:=[]) (t:=(.tup [0,1])) #[0] (wF (sc:=(zd wK).names) (N:=["rows"]) #[0] #[0] #[0] #[13]) (zV hb1 (DR.cur (za 0))) #[7] (λB' C' s₀ H₀ fp pn=>⟨(zO #[0] (zo (zm (i:=0) (show List.Nodup (["turn","names"]:List Str) from by decide +kernel) #[0] #[2]) (zo (zm (i:=1) (show List.Nodup (["turn","names"]:List Str) from by decide +kernel) #[0] #[2]) zI))),jB,(kF (yL (DE.tree (zh 0)) (yL (DA.tree (wj #[0] T.b_list (z6 (za 1) zC))) u0)))⟩))))
theorem Vr:FnScope qM ["self","queue","hours","begin","name","promised","turn","run"] (zd jl):=#[10]
theorem zec {f:Addr}{fd:FuncData}(T:Txt K mg C)(F:Fun K "__init__" "Late.__init__" jl f fd) (Hbo:Fx P w K mg base "own_rows" 1 1 wf) (b_Late_Verdict:Bo P w K mg base (C "Verdict") (C "Late") 1 3 (xr C)):FnOk P w K mg base CX0 2 f fd ["self","queue","hours","begin","name","promised","turn","run"] (iSp ⟨K,w⟩ (C "Late") 7 (mirI (C "Late") ["self","queue","hours","begin","name","promised","turn","run"] (qY C))):=by
 have sc:=Vr
 refine jh (k:=1) F Vr rfl (λcdv A outer s H E B hr=>?_)
 exact (zf (JI 0 b_Late_Verdict #[4] #[0] T.mg_Verdict (pv 0) (zb (ze 1) (zb (ze 2) (zb (ze 3) zj)))) (zf (yc 0 T.cl_Late T.n_Late_name (pv 0) (zh 4)) (zf (yc 0 T.cl_Late T.n_Late_promised (pv 0) (zh 5)) (zf (yc 0 T.cl_Late T.n_Late_turn (pv 0) (zh 6)) (zg (yc 0 T.cl_Late T.n_Late_run (pv 0) (zz Hbo #[4] #[0] (zb (ze 7) zj))))))))
theorem Wo:FnScope ["self"] ["self"] (zd vd):=#[10]
theorem UA {f:Addr}{fd:FuncData}(T:Txt K mg C)(F:Fun K "told" "Late.told" vd f fd) (Hbo:Fx P w K mg base "own_rows" 1 1 wf) (Haq:Mx P w K mg base (C "Late") "word" 1 1 (uy C)):FnOk P w K mg base CX0 2 f fd ["self"] (pSp ⟨K,w⟩ 1 (len? 1 (mir ["self"] (Z5 C)))):=by
 have sc:=Wo
 refine zv (k:=1) F Wo (λcdv A outer s H E B hr=>?_)
 exact (zg (up (kF (yL (DE.tree (zX (zh 0) T.cl_Late Haq #[4])) (yL (DE.tree (z5 T.cl_Late T.n_Late_name (zh 0))) (yL (DE.tree (z5 T.cl_Late T.n_Late_promised (zh 0))) (yL (DE.tree (z5 T.cl_Late T.n_Late_turn (zh 0))) (yL (G8 Hbo #[4] #[0] (zb (zl (z5 T.cl_Late T.n_Late_run (zh 0))) zj)) u0))))))))
theorem KA:FnScope jF ["queue","ends","promises"] (zd vw):=#[10]
theorem zda {f:Addr}{fd:FuncData}(T:Txt K mg C)(F:Fun K "first_late" "first_late" vw f fd):FnOk P w K mg base CX0 1 f fd ["queue","ends","promises"] (pSp ⟨K,w⟩ 3 (len? 3 (mir jF ux))):=by
 have sc:=KA
 refine zv (k:=0) F KA (λcdv A outer s H E B hr=>?_)
 exact (zf (zU (t:=(.tup [3,4])) PassesOwn.never #[0] (zV hb0 (yu 0 (pv 0))) (zO #[0] (zo (zm (i:=3) sc.nd #[0] #[2]) (zo (zm (i:=4) sc.nd #[0] #[2]) zI))) (zg (zA (yt (xu (Vg (za 3) (yj 2 (pv 2))) (wp (z8 wO vf (DE.read (yR (yj 1 (pv 1)) (za 3))) (DE.read (yR (yj 2 (pv 2)) (za 3))) (nomark _))))) (zg (xK 3 (pv 3))) zE))) (zg (zx yZ)))
theorem VF:FnScope qr ["queue","hours","begin","promises"] (zd jt):=#[10]
theorem zbo {f:Addr}{fd:FuncData}(T:Txt K mg C)(F:Fun K "settled" "settled" jt f fd) (Ha1:Fx P w K mg base "first_late" 1 3 jc) (Ha0:Fx P w K mg base "ends_of" 1 1 jH) (Hbp:FxN P w K mg base "run_of" 3 4 (wC C)) (Haa:Kx P w K mg base #[16] "Granted" 1 3 (wt C)) (Ham:Kx P w K mg base (C "Late") "Late" 2 7 (wb C)):FnOk P w K mg base CX0 4 f fd ["queue","hours","begin","promises"] (pSp ⟨K,w⟩ 4 (len? 4 (mir qr (kA C)))):=by
 have sc:=VF
 refine zv (k:=3) F VF (λcdv A outer s H E B hr=>?_)
 exact (zf (zq (i:=4) sc.nd #[0] #[2] (DA.frz (zfk Hbp #[4] #[0] (zb (ze 0) (zb (ze 1) (zb (ze 2) zj)))))) (zf (xt (j:=5) sc.nd #[0] #[2] (ud Ha0 #[4] #[0] (zb (ze 4) zj))) (zf (zq (i:=6) sc.nd #[0] #[2] (zz Ha1 #[4] #[0] (zb (ze 0) (zb (ze 5) (zb (ze 3) zj))))) (zf (zA (z8 KO WF (za 6) (DE.read yZ) (nomark _)) (zg (zx (kK Haa #[4] #[0] (zb (ze 0) (zb (ze 1) (zb (ze 2) zj)))))) zE) (zg (zx (kK Ham #[4] #[0] (zb (ze 0) (zb (ze 1) (zb (ze 2) (zb (ze 6) (zb (zl (yR (yj 3 (pv 3)) (za 6))) (zb (zl (yR (yj 5 (pv 5)) (za 6))) (zb (ze 4) zj))))))))))))))
theorem VP:FnScope xO ["self","promises"] (zd je):=#[10]
theorem Gz {f:Addr}{fd:FuncData}(T:Txt K mg C)(F:Fun K "holds" "Granted.holds" je f fd) (Hbq:Fx P w K mg base "settled" 4 4 (yg C)) (Hab:Mx P w K mg base #[16] "granted" 1 1 (y3 C)) (Han:Mx P w K mg base (C "Late") "granted" 1 1 (y7 C)) (Has:Mx P w K mg base #[12] "granted" 1 1 (yF C)):FnOk P w K mg base CX0 5 f fd ["self","promises"] (pSp ⟨K,w⟩ 2 (len? 2 (mir xO (kg C)))):=by
 have sc:=VP
 refine zv (k:=4) F VP (λcdv A outer s H E B hr=>?_)
 exact (zg (zx (yv (zX #[33] T.cl_Granted Hab #[4]) (yv (zX #[33] T.cl_Late Han #[4]) (zX #[33] T.cl_NoRoom Has #[4])))))
theorem JC:FnScope xO ["self","promises"] (zd jr):=#[10]
theorem zf5 {f:Addr}{fd:FuncData}(T:Txt K mg C)(F:Fun K "holds" "Late.holds" jr f fd) (Hbq:Fx P w K mg base "settled" 4 4 (yg C)) (Had:Mx P w K mg base #[16] "told" 2 1 (y6 C)) (Hap:Mx P w K mg base (C "Late") "told" 2 1 (yw C)) (Hau:Mx P w K mg base #[12] "told" 2 1 (yA C)):FnOk P w K mg base CX0 5 f fd ["self","promises"] (pSp ⟨K,w⟩ 2 (len? 2 (mir xO (qH C)))):=by
 have sc:=JC
 refine zv (k:=4) F JC (λcdv A outer s H E B hr=>?_)
 exact (zg (zx (yX (yb hr.units) zL (DE.read (yv (zX #[35] T.cl_Granted Had #[4]) (yv (zX #[35] T.cl_Late Hap #[4]) (zX #[35] T.cl_NoRoom Hau #[4])))) (DE.read (zX (zh 0) T.cl_Late Hap #[4])) (nomark _))))
theorem kM:FnScope yC ["begin","first","last"] (zd wq):=#[10]
theorem zg0 {f:Addr}{fd:FuncData}(T:Txt K mg C)(F:Fun K "check_booked" "check_booked" wq f fd) (Ha2:Fx P w K mg base "is_number" 2 3 zN):FnOk P w K mg base CX0 3 f fd ["begin","first","last"] (pSp ⟨K,w⟩ 3 (len? 3 (mir yC jn))):=by
 obtain⟨tok_GREATEST_TURN,t_GREATEST_TURN⟩:=T.c_GREATEST_TURN'
 obtain⟨tok_MOST_BOOKED,t_MOST_BOOKED⟩:=T.c_MOST_BOOKED'
 have sc:=kM
 refine zv (k:=2) F kM (λcdv A outer s H E B hr=>?_)
 exact (zf (zA (yf (zS (DE.read (zz Ha2 #[4] #[0] (zb (ze 1) (zb (ze 0) #[31])))) (by intro _;rfl))) (zg yW) zE) (zf (zA (yf (zS (DE.read (zz Ha2 #[4] #[0] (zb (ze 2) (zb (ze 1) #[31])))) (by intro _;rfl))) (zg yW) zE) (zg (zA (z8 YE uS (DE.read (zR (za 2) (za 1))) (DE.read (y2 (v:=.int 50) #[0] t_MOST_BOOKED (by exact⟨_,rfl⟩) (by intro _;rfl))) (nomark _)) (zg yW) zE))))
theorem GH {f:Addr}{fd:FuncData}(T:Txt K mg C)(F:Fun K "check_booked" "check_booked" wq f fd) {ca:Str->Addr} (U:Exs P w K mg base ca) (Ha2:Fx P w K mg base "is_number" 2 3 zN):FnOk P w K mg base (CX1 P w) 3 f fd ["begin","first","last"] (ySp ⟨K,w⟩ ca "turn" 3 (mirY ["begin","first","last"] 3 jN)):=by
 obtain⟨tok_GREATEST_TURN,t_GREATEST_TURN⟩:=T.c_GREATEST_TURN'
 obtain⟨tok_MOST_BOOKED,t_MOST_BOOKED⟩:=T.c_MOST_BOOKED'
 have sc:=kM
 refine KS (k:=2) F kM (λcdv A outer s H E B pn hr=>?_)
 exact (Jb (ZD (yf (zS (DE.read (zz Ha2 #[4] #[0] (zb (ze 1) (zb (ze 0) #[31])))) (by intro _;rfl))) (uB (nm := "NoNumber") rfl rfl U.x_NoNumber #[0] U.m_NoNumber zZ) ZX) (Qh (zA (yf (zS (DE.read (zz Ha2 #[4] #[0] (zb (ze 1) (zb (ze 0) #[31])))) (by intro _;rfl))) (zg yW) zE) (Jb (ZD (yf (zS (DE.read (zz Ha2 #[4] #[0] (zb (ze 2) (zb (ze 1) #[31])))) (by intro _;rfl))) (uB (nm := "NoNumber") rfl rfl U.x_NoNumber #[0] U.m_NoNumber zZ) ZX) (Qh (zA (yf (zS (DE.read (zz Ha2 #[4] #[0] (zb (ze 2) (zb (ze 1) #[31])))) (by intro _;rfl))) (zg yW) zE) (ZD (z8 YE uS (DE.read (zR (za 2) (za 1))) (DE.read (y2 (v:=.int 50) #[0] t_MOST_BOOKED (by exact⟨_,rfl⟩) (by intro _;rfl))) (nomark _)) (uB (nm := "NoNumber") rfl rfl U.x_NoNumber #[0] U.m_NoNumber zZ) ZX)))))
theorem Wr:FnScope jP ["queue","hours","begin","promises","first","last"] (zd j8):=#[10]
theorem zfz {f:Addr}{fd:FuncData}(T:Txt K mg C)(F:Fun K "settled_booking" "settled_booking" j8 f fd) (Hbq:Fx P w K mg base "settled" 4 4 (yg C)) (Hak:Mx P w K mg base #[5] "less" 8 3 (jZ C)) (Haj:Mx P w K mg base #[5] "free" 1 3 (xY C)) (Har:Kx P w K mg base #[12] "NoRoom" 2 4 (w6 C)):FnOk P w K mg base CX0 9 f fd ["queue","hours","begin","promises","first","last"] (pSp ⟨K,w⟩ 6 (len? 6 (mir jP (kr C)))):=by
 have sc:=Wr
 refine zv (k:=8) F Wr (λcdv A outer s H E B hr=>?_)
 exact (zf (zq (i:=6) sc.nd #[0] #[2] (yH (zh 1) T.cl_Hours Haj #[4] (zb (ze 4) (zb (ze 5) zj)))) (zf (zA (z8 WA Vw (za 6) (DE.read yZ) (nomark _)) (zg (zx (kK Har #[4] #[0] (zb (ze 0) (zb (ze 1) (zb (ze 2) (zb (ze 6) zj))))))) zE) (zg (zx (zz Hbq #[4] #[0] (zb (ze 0) (zb (zl (yH (zh 1) T.cl_Hours Hak #[4] (zb (ze 4) (zb (ze 5) zj)))) (zb (ze 2) (zb (ze 3) zj)))))))))
theorem kn:FnScope wa ["queue","hours","begin","promises","first","last"] (zd wD):=#[10]
theorem zex {f:Addr}{fd:FuncData}(T:Txt K mg C)(F:Fun K "ask_booking" "ask_booking" wD f fd) (Hbr:Fx P w K mg base "settled_booking" 9 6 (xz C)) (Hax:Fx P w K mg base "check_booked" 3 3 yI):FnOk P w K mg base CX0 10 f fd ["queue","hours","begin","promises","first","last"] (pSp ⟨K,w⟩ 6 (len? 6 (mir wa (qW C)))):=by
 have sc:=kn
 refine zv (k:=9) F kn (λcdv A outer s H E B hr=>?_)
 exact (zf (Kg (zz Hax #[4] #[0] (zb (ze 2) (zb (ze 4) (zb (ze 5) zj))))) (zg (zx (zz Hbr #[4] #[0] (zb (ze 0) (zb (ze 1) (zb (ze 2) (zb (ze 3) (zb (ze 4) (zb (ze 5) zj))))))))))
theorem zb9 {f:Addr}{fd:FuncData}(T:Txt K mg C)(F:Fun K "ask_booking" "ask_booking" wD f fd) {ca:Str->Addr} (U:Exs P w K mg base ca) (Hbv:Ry P w K mg base ca "turn" "check_booked" 3 3 xV):FnOk P w K mg base (CX1 P w) 4 f fd ["queue","hours","begin","promises","first","last"] (ySp ⟨K,w⟩ ca "turn" 6 (mirY ["queue","hours","begin","promises","first","last"] 6 Z2)):=by
 have sc:=kn
 refine KS (k:=3) F kn (λcdv A outer s H E B pn hr=>?_)
 exact (RX (JA JJ Hbv Wu #[4] #[0] (zb (ze 2) (zb (ze 4) (zb (ze 5) zj)))))
theorem QS:FnScope qu ["_law_script","_law_k"] (zd vz):=#[10]
theorem zf2 {f:Addr}{fd:FuncData}(T:Txt K mg C)(F:Fun K "_law_cell" "_law_cell" vz f fd):FnOk P w K mg base CX0 1 f fd ["_law_script","_law_k"] (pSp ⟨K,w⟩ 2 (len? 2 (mir qu qB))):=by
 have sc:=QS
 refine zv (k:=0) F QS (λcdv A outer s H E B hr=>?_)
 exact (zf (zA (z8 yO yJ (za 1) (DE.read (xN #[0] T.b_len (z6 (za 0) zC))) (nomark _)) (zg (zx (zu (za 0) (za 1) #[14]))) zE) (zg (zx de_int)))
theorem Ja:FnScope ub ["_law_cell_here","_law_k"] (zd vL):=#[10]
theorem GI {f:Addr}{fd:FuncData}(T:Txt K mg C)(F:Fun K "_law_stir" "_law_stir" vL f fd):FnOk P w K mg base CX0 1 f fd ["_law_cell_here","_law_k"] (pSp ⟨K,w⟩ 2 (len? 2 (mir ub ZW))):=by
 have sc:=Ja
 refine zv (k:=0) F Ja (λcdv A outer s H E B hr=>?_)
 exact (zf (zq (i:=2) sc.nd #[0] #[2] (ya (DE.read (zB (DE.read (zB (DE.read (wJ (DE.read (ya (za 0) de_int.read)) de_int.read)) (DE.read (wJ de_int.read (za 1))))) de_int.read)) de_int.read)) (zf (zq (i:=2) sc.nd #[0] #[2] (ya (DE.read (wJ (za 2) (za 2))) de_int.read)) (zg (zx (ya (DE.read (zB (DE.read (zB (DE.read (wJ (za 2) (za 2))) (DE.read (wJ de_int.read (za 2))))) de_int.read)) de_int.read)))))
theorem Wb:FnScope qU ["_law_script","_law_at_here","_law_bases"] (zd j5):=#[10]
theorem zeq {f:Addr}{fd:FuncData}(T:Txt K mg C)(F:Fun K "_law_draw" "_law_draw" j5 f fd) (Ha7:Fx P w K mg base "_law_cell" 1 2 xo) (Hbi:Fx P w K mg base "_law_stir" 1 2 qj):FnOk P w K mg base CX0 2 f fd ["_law_script","_law_at_here","_law_bases"] (pSp ⟨K,w⟩ 3 (len? 3 (mir qU Y3))):=by
 have sc:=Wb
 refine zv (k:=1) F Wb (λcdv A outer s H E B hr=>?_)
 exact (zf (zq (i:=3) sc.nd #[0] #[2] (zz Ha7 #[4] #[0] (zb (ze 0) (zb (ze 1) zj)))) (zf (yB (i:=4) sc.nd #[0] #[2] (zF zw)) (zf (zU (t:=(.tup [5,6])) PassesOwn.never #[0] (YO hb0 #[0] T.b_enumerate (uW hb0 (yu 2 (pv 2)) Zz)) (zO #[0] (zo (zm (i:=5) sc.nd #[0] #[2]) (zo (zm (i:=6) sc.nd #[0] #[2]) zI))) (zg (zA (z8 (yb hr.units) zL (DE.read (zc3 (DE.read (UH (DE.read (zz Ha7 #[4] #[0] (zb (ze 0) (zb (zl de_int) zj)))) (DE.read (ya (za 1) de_int.read)))) de_int.read)) de_int.read (nomark _)) (zf (yy 4 (pv 4) (ya (za 3) (za 6))) (zg (zq (i:=3) sc.nd #[0] #[2] (vV (za 3) (za 6))))) (zg (yy 4 (pv 4) (ya (DE.read (vV (DE.read (zz Hbi #[4] #[0] (zb (ze 3) (zb (ze 5) zj)))) de_int.read)) (za 6))))))) (zg (xK 4 (pv 4))))))
theorem VD:FnScope uc ["_law_cell_here","_law_k"] (zd jp):=#[10]
theorem RQ {f:Addr}{fd:FuncData}(T:Txt K mg C)(F:Fun K "_law_name" "_law_name" jp f fd):FnOk P w K mg base CX0 1 f fd ["_law_cell_here","_law_k"] (pSp ⟨K,w⟩ 2 (len? 2 (mir uc uX))):=by
 have sc:=VD
 refine zv (k:=0) F VD (λcdv A outer s H E B hr=>?_)
 exact (zf (zq (i:=2) sc.nd #[0] #[2] zZ) (zf (zq (i:=3) sc.nd #[0] #[2] (ya (za 0) de_int.read)) (zf (zq (i:=4) sc.nd #[0] #[2] (ya (DE.read (vV (za 0) de_int.read)) (DE.read (zB (za 3) de_int.read)))) (zf (zq (i:=5) sc.nd #[0] #[2] (vV (za 0) de_int.read)) (zf (zq (i:=6) sc.nd #[0] #[2] zZ) (zf (zU (t:=(.name 7)) PassesOwn.never #[0] (WP #[0] T.b_range (z6 (za 3) zC)) (zm (i:=7) sc.nd #[0] #[2]) (zf (zq (i:=6) sc.nd #[0] #[2] (zB (za 6) (DE.read (zu (za 2) (DE.read (ya (za 5) (DE.read (zu (DA.read (zF (zi de_int (zi de_int zw)))) (DE.read (kN #[0] T.b_int (z6 (DE.read (yX (yb hr.units) zL (za 7) de_int.read (nomark _))) zC))) #[14])))) #[14])))) (zg (zq (i:=5) sc.nd #[0] #[2] (vV (za 5) de_int.read))))) (zg (zx (zB (DE.read (zB (DE.read (Q7 (za 6) x0 (xA (za 4)))) (DE.read (zu (za 2) (DE.read (ya (DE.read (zB (za 5) (za 1))) de_int.read)) #[14])))) (DE.read (Q7 (za 6) (xA (za 4)) x0)))))))))))
theorem WW:FnScope qJ ["_law_script"] (zd vn):=#[10]
theorem zf9 {f:Addr}{fd:FuncData}(T:Txt K mg C)(F:Fun K "_law_world" "_law_world" vn f fd) (Hbe:Fx P w K mg base "_law_name" 1 2 jC) (Ha7:Fx P w K mg base "_law_cell" 1 2 xo) (Ha8:Fx P w K mg base "_law_draw" 2 3 yq):FnOk P w K mg base CX0 3 f fd ["_law_script"] (pSp ⟨K,w⟩ 1 (len? 1 (mir qJ ZK))):=by
 have sc:=WW
 refine zv (k:=2) F WW (λcdv A outer s H E B hr=>?_)
 exact (zf (qD (is:=[1,2,3,4]) (DA.frz (yn Ha8 #[4] #[0] (zb (ze 0) (zb (zl de_int) (zb (zl (DA.frz (zF (zi de_int (zi de_int (zi de_int (zi de_int zw))))))) zj))))) (qP #[0] (zo (zm (i:=1) sc.nd #[0] #[2]) (zo (zm (i:=2) sc.nd #[0] #[2]) (zo (zm (i:=3) sc.nd #[0] #[2]) (zo (zm (i:=4) sc.nd #[0] #[2]) zI)))))) (zf (zq (i:=5) sc.nd #[0] #[2] (DA.frz (yn Ha8 #[4] #[0] (zb (ze 0) (zb (zl de_int) (zb (zl (DA.frz (Y5 (DA.read (zF (zi de_int (zi de_int zw)))) (za 1)))) zj)))))) (zf (yB (i:=6) sc.nd #[0] #[2] (zF zw)) (zf (zU (t:=(.name 7)) PassesOwn.never #[0] (WP #[0] T.b_range (z6 (za 1) zC)) (zm (i:=7) sc.nd #[0] #[2]) (zg (yy 6 (pv 6) (zK (zi (zB de_int.read (DE.read (zu (za 5) (DE.read (wJ de_int.read (za 7))) #[14]))) (zi (ya (DE.read (zu (za 5) (DE.read (zB (DE.read (wJ de_int.read (za 7))) de_int.read)) #[14])) (DE.read (zu (DA.read (zF (zi de_int (zi de_int (zi de_int (zi de_int zw)))))) (za 4) #[14]))) zw)))))) (zf (qD (is:=[8,9]) (DA.frz (yn Ha8 #[4] #[0] (zb (ze 0) (zb (zl de_int) (zb (zl (DA.frz (zF (zi de_int (zi de_int zw))))) zj))))) (qP #[0] (zo (zm (i:=8) sc.nd #[0] #[2]) (zo (zm (i:=9) sc.nd #[0] #[2]) zI)))) (zf (zq (i:=10) sc.nd #[0] #[2] (DA.frz (vP (DA.read (yn Ha8 #[4] #[0] (zb (ze 0) (zb (zl de_int) (zb (zl (DA.frz (u9 (DA.read (zF (zi de_int (zi de_int zw)))) (DA.read (Y5 (DA.read (zF (zi de_int zw))) (za 8)))))) zj))))) (xA de_int.read) x0))) (zf (yB (i:=11) sc.nd #[0] #[2] (zF zw)) (zf (zU (t:=(.tup [7,12])) PassesOwn.never #[0] (YO hb0 #[0] T.b_enumerate (uW hb0 (yu 10 (pv 10)) Zz)) (zO #[0] (zo (zm (i:=7) sc.nd #[0] #[2]) (zo (zm (i:=12) sc.nd #[0] #[2]) zI))) (zg (yy 11 (pv 11) (zK (zi (zz Hbe #[4] #[0] (zb (zl (zz Ha7 #[4] #[0] (zb (ze 0) (zb (zl de_int) zj)))) (zb (ze 7) zj))) (zi (zB de_int.read (DE.read (ya (za 12) (DE.read (zu (DA.read (zF (zi de_int (zi de_int (zi de_int (zi de_int zw)))))) (za 9) #[14]))))) zw)))))) (zg (V3 6 (V3 11 (zx (zK (zi (zh 11) (zi (zh 6) (zi (zB de_int.read (za 3)) (zi (zh 2) zw)))))))))))))))))
theorem WZ:FnScope jx ["_law_side","_law_turn"] (zd ja):=#[10]
theorem zey {f:Addr}{fd:FuncData}(T:Txt K mg C)(F:Fun K "_law_at" "_law_at" ja f fd):FnOk P w K mg base CX0 1 f fd ["_law_side","_law_turn"] (pSp ⟨K,w⟩ 2 (len? 2 (mir jx jI))):=by
 have sc:=WZ
 refine zv (k:=0) F WZ (λcdv A outer s H E B hr=>?_)
 exact (zf (YD (t:=(.tup [2,3,4,5])) (zh 0) (zO #[0] (zo (zm (i:=2) sc.nd #[0] #[2]) (zo (zm (i:=3) sc.nd #[0] #[2]) (zo (zm (i:=4) sc.nd #[0] #[2]) (zo (zm (i:=5) sc.nd #[0] #[2]) zI)))))) (zf (zq (i:=6) sc.nd #[0] #[2] (zh 3)) (zf (zq (i:=7) sc.nd #[0] #[2] (zh 1)) (zf (zU (t:=(.tup [8,9])) PassesOwn.never #[0] (zV hb0 (yu 2 (pv 2))) (zO #[0] (zo (zm (i:=8) sc.nd #[0] #[2]) (zo (zm (i:=9) sc.nd #[0] #[2]) zI))) (zf (zA (z8 yO yJ (za 7) (za 8) (nomark _)) (zf (zq (i:=6) sc.nd #[0] #[2] (zh 9)) (zg zhj)) zE) (zg (zq (i:=7) sc.nd #[0] #[2] (zR (za 7) (za 8)))))) (zg (zx (zR (za 6) (DE.read (kN #[0] T.b_int (z6 (DE.read (Yw xL xL xP xP (za 4) (za 1) (za 5))) zC))))))))))
theorem Qe:FnScope vg ["_law_queue","_law_side","_law_begin"] (zd xJ):=#[10]
theorem zho {f:Addr}{fd:FuncData}(T:Txt K mg C)(F:Fun K "_law_run" "_law_run" xJ f fd) (Ha6:Fx P w K mg base "_law_at" 1 2 zY):FnOk P w K mg base CX0 2 f fd ["_law_queue","_law_side","_law_begin"] (pSp ⟨K,w⟩ 3 (len? 3 (mir vg Yu))):=by
 have sc:=Qe
 refine zv (k:=1) F Qe (λcdv A outer s H E B hr=>?_)
 exact (zf (zq (i:=3) sc.nd #[0] #[2] (DA.frz (wj #[0] T.b_list (z6 (za 0) zC)))) (zf (yB (i:=4) sc.nd #[0] #[2] (zF zw)) (zf (zq (i:=5) sc.nd #[0] #[2] (zh 2)) (zf (Y7 PassesOwn.never (z8 (wu hr.units) zL (za 3) (DA.read (zF zw)) (nomark _)) (zf (zq (i:=6) sc.nd #[0] #[2] (zz Ha6 #[4] #[0] (zb (ze 1) (zb (ze 5) zj)))) (zf (yy 4 (pv 4) (zK (zi (zh 5) (zi (DA.frz (qg (own:=["_law_name_here","_law_left"]) (cap:=[]) (t:=(.tup [0,1])) #[0] (wF (sc:=(zd xJ).names) (N:=vg) #[0] #[0] #[0] #[13]) (zV hb1 (DR.cur (DA.read (vP (za 3) x0 (xA (za 6)))))) #[7] (λB' C' s₀ H₀ fp pn=>⟨(zO #[0] (zo (zm (i:=0) (show List.Nodup (["_law_name_here","_law_left"]:List Str) from by decide +kernel) #[0] #[2]) (zo (zm (i:=1) (show List.Nodup (["_law_name_here","_law_left"]:List Str) from by decide +kernel) #[0] #[2]) zI))),jB,(zh 0)⟩))) zw)))) (zf (zq (i:=3) sc.nd #[0] #[2] (DA.frz (u9 (DA.read (qg (own:=["_law_name_here","_law_left"]) (cap:=[]) (t:=(.tup [0,1])) #[0] (wF (sc:=(zd xJ).names) (N:=vg) #[0] #[0] #[0] #[13]) (zV hb1 (DR.cur (DA.read (vP (za 3) x0 (xA (za 6)))))) #[7] (λB' C' s₀ H₀ fp pn=>⟨(zO #[0] (zo (zm (i:=0) (show List.Nodup (["_law_name_here","_law_left"]:List Str) from by decide +kernel) #[0] #[2]) (zo (zm (i:=1) (show List.Nodup (["_law_name_here","_law_left"]:List Str) from by decide +kernel) #[0] #[2]) zI))),(Ki (z8 wO vf (za 1) de_int.read (nomark _))),(zK (zi (zh 0) (zi (zR (za 1) de_int.read) zw)))⟩))) (DA.read (vP (za 3) (xA (za 6)) x0))))) (zg (zq (i:=5) sc.nd #[0] #[2] (zB (za 5) de_int.read))))))) (zg (xK 4 (pv 4)))))))
theorem K8:FnScope kB ["_law_run_here"] (zd jz):=#[10]
theorem ze6 {f:Addr}{fd:FuncData}(T:Txt K mg C)(F:Fun K "_law_ends" "_law_ends" jz f fd):FnOk P w K mg base CX0 1 f fd ["_law_run_here"] (pSp ⟨K,w⟩ 1 (len? 1 (mir kB Y1))):=by
 have sc:=K8
 refine zv (k:=0) F K8 (λcdv A outer s H E B hr=>?_)
 exact (zf (xt (j:=1) sc.nd #[0] #[2] Wq) (zf (zU (t:=(.tup [2,3])) PassesOwn.never #[0] (zV hb0 (yu 0 (pv 0))) (zO #[0] (zo (zm (i:=2) sc.nd #[0] #[2]) (zo (zm (i:=3) sc.nd #[0] #[2]) zI))) (zg (zU (t:=(.name 4)) PassesOwn.never #[0] (zV hb0 (yu 3 (pv 3))) (zm (i:=4) sc.nd #[0] #[2]) (zg (qO 1 (pv 1) (za 4) (zh 2)))))) (zg (Yd 1 (pv 1)))))
theorem W6:FnScope jX ["_law_queue","_law_side","_law_begin","_law_promises_here"] (zd vH):=#[10]
theorem zer {f:Addr}{fd:FuncData}(T:Txt K mg C)(F:Fun K "_law_verdict" "_law_verdict" vH f fd) (Hba:Fx P w K mg base "_law_ends" 1 1 wA) (Hbh:Fx P w K mg base "_law_run" 2 3 xq):FnOk P w K mg base CX0 3 f fd ["_law_queue","_law_side","_law_begin","_law_promises_here"] (pSp ⟨K,w⟩ 4 (len? 4 (mir jX kC))):=by
 have sc:=W6
 refine zv (k:=2) F W6 (λcdv A outer s H E B hr=>?_)
 exact (zf (zq (i:=4) sc.nd #[0] #[2] (DA.frz (yn Hbh #[4] #[0] (zb (ze 0) (zb (ze 1) (zb (ze 2) zj)))))) (zf (xt (j:=5) sc.nd #[0] #[2] (ud Hba #[4] #[0] (zb (ze 4) zj))) (zf (zU (t:=(.tup [6,7])) PassesOwn.never #[0] (zV hb0 (yu 0 (pv 0))) (zO #[0] (zo (zm (i:=6) sc.nd #[0] #[2]) (zo (zm (i:=7) sc.nd #[0] #[2]) zI))) (zg (zA (yt (xu (Vg (za 6) (yj 3 (pv 3))) (wp (z8 wO vf (DE.read (yR (yj 5 (pv 5)) (za 6))) (DE.read (yR (yj 3 (pv 3)) (za 6))) (nomark _))))) (zg (zx (zK (zi zZ (zi (zh 6) (zi (yR (yj 3 (pv 3)) (za 6)) (zi (yR (yj 5 (pv 5)) (za 6)) (zi (zh 4) zw (zG rfl)) (zG rfl)) (zG rfl)) (zG rfl)) (zG rfl))))) zE))) (zg (zx (zK (zi zZ zw)))))))
theorem Vz:FnScope kW ["_law_script","_law_at_here","_law_queue","_law_side","_law_begin"] (zd jd):=#[10]
theorem Ug {f:Addr}{fd:FuncData}(T:Txt K mg C)(F:Fun K "_law_promises" "_law_promises" jd f fd) (Ha8:Fx P w K mg base "_law_draw" 2 3 yq) (Hba:Fx P w K mg base "_law_ends" 1 1 wA) (Hbh:Fx P w K mg base "_law_run" 2 3 xq):FnOk P w K mg base CX0 3 f fd ["_law_script","_law_at_here","_law_queue","_law_side","_law_begin"] (pSp ⟨K,w⟩ 5 (len? 5 (mir kW Zd))):=by
 have sc:=Vz
 refine zv (k:=2) F Vz (λcdv A outer s H E B hr=>?_)
 exact (zf (xt (j:=5) sc.nd #[0] #[2] (ud Hba #[4] #[0] (zb (zl (DA.frz (yn Hbh #[4] #[0] (zb (ze 2) (zb (ze 3) (zb (ze 4) zj)))))) zj))) (zf (zq (i:=6) sc.nd #[0] #[2] (DA.frz (yn Ha8 #[4] #[0] (zb (ze 0) (zb (ze 1) (zb (zl (DA.frz (u9 (DA.read (zF (zi de_int zw))) (DA.read (Y5 (DA.read (zF (zi de_int zw))) (DE.read (xN #[0] T.b_len (z6 (za 2) zC)))))))) zj)))))) (zf (xt (j:=7) sc.nd #[0] #[2] Ut) (zf (zU (t:=(.tup [8,9])) PassesOwn.never #[0] (YO hb0 #[0] T.b_enumerate (uW hb0 (yu 2 (pv 2)) Zz)) (zO #[0] (zo (zm (i:=8) sc.nd #[0] #[2]) (zo (zm (i:=9) sc.nd #[0] #[2]) zI))) (zf (zq (i:=10) sc.nd #[0] #[2] (zu (za 6) (DE.read (zB (za 8) de_int.read)) #[14])) (zg (zA (z8 yO yJ (za 10) de_int.read (nomark _)) (zg (qO 7 (pv 7) (DE.read (zu (za 9) de_int.read #[14])) (zB (DE.read (yR (yj 5 (pv 5)) (DE.read (zu (za 9) de_int.read #[14])))) (DE.read (ya (za 10) de_int.read))))) (zg (zA (yt (xu (z8 (yb hr.units) zL (za 10) de_int.read (nomark _)) (wp (z8 (yb hr.units) zL (DE.read (zu (za 6) de_int.read #[14])) de_int.read (nomark _))))) (zg (qO 7 (pv 7) (DE.read (zu (za 9) de_int.read #[14])) (zR (DE.read (zR (DE.read (yR (yj 5 (pv 5)) (DE.read (zu (za 9) de_int.read #[14])))) de_int.read)) (DE.read (ya (za 8) de_int.read))))) zE)))))) (zg (Yd 7 (pv 7)))))))
theorem Qm:FnScope qC ["_law_found","_law_due_here"] (zd j7):=#[10]
theorem zc6 {f:Addr}{fd:FuncData}(T:Txt K mg C)(F:Fun K "_law_is" "_law_is" j7 f fd):FnOk P w K mg base CX0 1 f fd ["_law_found","_law_due_here"] (pSp ⟨K,w⟩ 2 (len? 2 (mir qC YT))):=by
 have sc:=Qm
 refine zv (k:=0) F Qm (λcdv A outer s H E B hr=>?_)
 exact (zg (zx (wx (wB (kitT "bool" #[7]) #[0] T.b_isinstance #[0] T.b_bool #[13] (za 0)) (wQ (yX (yb hr.units) zL (za 0) (za 1) (nomark _))))))
theorem V2:FnScope qt ["_law_queue","_law_hours_here","_law_begin","_law_promises_here","_law_turns_here"] (zd jb):=#[10]
theorem zhm {f:Addr}{fd:FuncData}(T:Txt K mg C)(F:Fun K "_law_told" "_law_told" jb f fd) {ca:Str->Addr} (U:Exs P w K mg base ca) (Haw:Fx P w K mg base "ask_booking" 10 6 (xp C)) (Hbu:Ry P w K mg base ca "turn" "ask_booking" 4 6 vX):FnOk P w K mg base CX0 11 f fd ["_law_queue","_law_hours_here","_law_begin","_law_promises_here","_law_turns_here"] (pSp ⟨K,w⟩ 5 (len? 5 (mir qt (kd C)))):=by
 have sc:=V2
 refine zv (k:=10) F V2 (λcdv A outer s H E B hr=>?_)
 exact (zf (zq (i:=5) sc.nd #[0] (by first|exact .inl rfl|exact .inr rfl) yZ) (zf (zq (i:=6) sc.nd #[0] (by first|exact .inl rfl|exact .inr rfl) zZ) (zf (zay (ca:=ca) (fd := "turn") (zg (zq (i:=5) sc.nd #[0] (by first|exact .inl rfl|exact .inr rfl) (zz Haw #[4] #[0] (zb (ze 0) (zb (ze 1) (zb (ze 2) (zb (ze 3) (zb (zl (zu (za 4) de_int.read #[14])) (zb (zl (zu (za 4) de_int.read #[14])) zj))))))))) (λpn E=>(zej (i:=5) sc.nd #[0] (by first|exact .inl rfl|exact .inr rfl) (JA JJ Hbu Wu #[4] #[0] (zb (ze 0) (zb (ze 1) (zb (ze 2) (zb (ze 3) (zb (zl (zu (za 4) de_int.read #[14])) (zb (zl (zu (za 4) de_int.read #[14])) zj))))))))) sc.nd ⟨rfl,rfl⟩ (.as #[0] U.m_HallError #[13] #[0] #[0] (JZ (.cons (Uu (b:=true) (x1 := "other") (x2 := "number") (zbm (zb1 U.is_NoNumber U.z1_NoNumber_NoNumber #[0] T.b_isinstance #[0] U.m_NoNumber #[0] #[0]) (RH U.is_NoNumber U.t1_NoNumber_ValueError #[0] T.b_isinstance #[0] T.b_ValueError #[13] #[0] #[0])) #[0] T.b_int (hs:=by intro _ _;rfl)) #[0] (by first|exact .inl rfl|exact .inr rfl) (by first|exact .inl rfl|exact .inr rfl) #[0] .nil) Zh) (JZ U.y_NoNumber_HallError Zh) Zh .nil)) (zg (zx (zK (zi (zh 6) (zi (zh 5) zw))))))))
theorem YY:FnScope w4 ["_law_thing","_law_low","_law_high"] (zd ve):=#[10]
theorem zab {f:Addr}{fd:FuncData}(T:Txt K mg C)(F:Fun K "_law_number" "_law_number" ve f fd):FnOk P w K mg base CX0 1 f fd ["_law_thing","_law_low","_law_high"] (pSp ⟨K,w⟩ 3 (len? 3 (mir w4 vi))):=by
 have sc:=YY
 refine zv (k:=0) F YY (λcdv A outer s H E B hr=>?_)
 exact (zg (zx (wx (wB (kitT "int" #[7]) #[0] T.b_isinstance #[0] T.b_int #[13] (za 0)) (wx (Qp (wB (kitT "bool" #[7]) #[0] T.b_isinstance #[0] T.b_bool #[13] (za 0))) (wQ (Yw xL xL xP xP (za 1) (za 0) (za 2)))))))
theorem W2:FnScope wo ["_law_begin","_law_turns_here"] (zd wU):=#[10]
theorem zcn {f:Addr}{fd:FuncData}(T:Txt K mg C)(F:Fun K "_law_is_good" "_law_is_good" wU f fd) (Hbf:Fx P w K mg base "_law_number" 1 3 xl):FnOk P w K mg base CX0 2 f fd ["_law_begin","_law_turns_here"] (pSp ⟨K,w⟩ 2 (len? 2 (mir wo vo))):=by
 have sc:=W2
 refine zv (k:=1) F W2 (λcdv A outer s H E B hr=>?_)
 exact (zf (qD (is:=[2,3]) (zh 1) (qP #[0] (zo (zm (i:=2) sc.nd #[0] #[2]) (zo (zm (i:=3) sc.nd #[0] #[2]) zI)))) (zf (zA (yt (wv (yf (zS (DE.read (zz Hbf #[4] #[0] (zb (ze 2) (zb (ze 0) (zb (zl (wr de_int.read de_int.read)) zj))))) (by intro _;rfl))) (vJ (yf (zS (DE.read (zz Hbf #[4] #[0] (zb (ze 3) (zb (ze 2) (zb (zl (wr de_int.read de_int.read)) zj))))) (by intro _;rfl)))))) (zg (zx yi)) zE) (zg (zx (yX yO yJ (DE.read (zR (za 3) (za 2))) de_int.read (nomark _))))))
theorem VY:FnScope jS ["_law_queue","_law_side","_law_begin","_law_promises_here","_law_turns_here"] (zd wS):=#[10]
theorem za3 {f:Addr}{fd:FuncData}(T:Txt K mg C)(F:Fun K "_law_due" "_law_due" wS f fd) (Hbl:Fx P w K mg base "_law_verdict" 3 4 ww) (Ha6:Fx P w K mg base "_law_at" 1 2 zY):FnOk P w K mg base CX0 4 f fd ["_law_queue","_law_side","_law_begin","_law_promises_here","_law_turns_here"] (pSp ⟨K,w⟩ 5 (len? 5 (mir jS ul))):=by
 have sc:=VY
 refine zv (k:=3) F VY (λcdv A outer s H E B hr=>?_)
 exact (zf (zU (t:=(.name 5)) PassesOwn.never #[0] (J5 #[0] T.b_range (z6 (DE.read (zu (za 4) de_int.read #[14])) (z6 (DE.read (zB (DE.read (zu (za 4) de_int.read #[14])) de_int.read)) zC))) (zm (i:=5) sc.nd #[0] #[2]) (zg (zA (z8 (yb hr.units) zL (DE.read (zz Ha6 #[4] #[0] (zb (ze 1) (zb (ze 5) zj)))) de_int.read (nomark _)) (zg (zx (zK (zi zZ (zi (zh 5) zw))))) zE))) (zg (zx (zz Hbl #[4] #[0] (zb (ze 0) (zb (zl (zK (zi (zu (za 1) de_int.read #[14]) (zi (zu (za 1) de_int.read #[14]) (zi (zu (za 4) de_int.read #[14]) (zi (zu (za 4) de_int.read #[14]) zw)))))) (zb (ze 2) (zb (ze 3) zj))))))))
theorem JG:FnScope x3 ["_law_begin","_law_drawn"] (zd vm):=#[10]
theorem zef {f:Addr}{fd:FuncData}(T:Txt K mg C)(F:Fun K "_law_turns" "_law_turns" vm f fd):FnOk P w K mg base CX0 1 f fd ["_law_begin","_law_drawn"] (pSp ⟨K,w⟩ 2 (len? 2 (mir x3 wI))):=by
 have sc:=JG
 refine zv (k:=0) F JG (λcdv A outer s H E B hr=>?_)
 exact (zf (qD (is:=[2,3,4,5,6]) (zh 1) (qP #[0] (zo (zm (i:=2) sc.nd #[0] #[2]) (zo (zm (i:=3) sc.nd #[0] #[2]) (zo (zm (i:=4) sc.nd #[0] #[2]) (zo (zm (i:=5) sc.nd #[0] #[2]) (zo (zm (i:=6) sc.nd #[0] #[2]) zI))))))) (zf (zq (i:=7) sc.nd #[0] #[2] (zB (za 0) (za 2))) (zf (zq (i:=8) sc.nd #[0] #[2] (zB (za 7) (DE.read (zu (DA.read (zF (zi (ya (za 3) de_int.read) (zi (zh 3) zw)))) (DE.read (kN #[0] T.b_int (z6 (DE.read (yX (yb hr.units) zL (za 5) de_int.read (nomark _))) zC))) #[14])))) (zf (zA (yt (xu (z8 (yb hr.units) zL (za 4) de_int.read (nomark _)) (wp (z8 yO yJ (za 6) de_int.read (nomark _))))) (by refine zf ?_ ?_;(refine zq (i:=7) ?_ ?_ ?_ ?_ ?_ ?_;exact sc.nd;rfl;(first | exact Or.inl rfl | exact Or.inr rfl);(refine zu ?_ ?_ ?_;(refine DA.read ?_;refine zF ?_;refine yx (zG ?_) ?_ ?_;rfl;exact yZ;refine yx (zG ?_) ?_ ?_;rfl;exact yi;refine yx (zG ?_) ?_ ?_;rfl;exact zZ;refine yx (zG ?_) ?_ ?_;rfl;exact (zR (za 0) de_int.read);refine yx (zG ?_) ?_ ?_;rfl;exact (wr de_int.read de_int.read);refine yx (zG ?_) ?_ ?_;rfl;exact (zB (DE.read (wr de_int.read de_int.read)) de_int.read);exact zw);exact (za 6);(intro _ _;rfl));rfl;(first | exact Or.inl rfl | exact Or.inr rfl));exact (zg (zq (i:=8) sc.nd #[0] #[2] (zu (DA.read (zF (zi (zh 7) (zi (wr de_int.read de_int.read) zw)))) (DE.read (kN #[0] T.b_int (z6 (DE.read (yX yO yJ (za 6) de_int.read (nomark _))) zC))) #[14])))) (zg (zA (z8 (yb hr.units) zL (za 4) de_int.read (nomark _)) (by refine zg ?_;refine zq (i:=8) ?_ ?_ ?_ ?_ ?_ ?_;exact sc.nd;rfl;(first | exact Or.inl rfl | exact Or.inr rfl);(refine zu ?_ ?_ ?_;(refine DA.read ?_;refine zF ?_;refine yx (zG ?_) ?_ ?_;rfl;exact yZ;refine yx (zG ?_) ?_ ?_;rfl;exact yi;refine yx (zG ?_) ?_ ?_;rfl;exact (zR (za 7) de_int.read);refine yx (zG ?_) ?_ ?_;rfl;exact (zB (za 7) de_int.read);refine yx (zG ?_) ?_ ?_;rfl;exact (zB (za 7) de_int.read);refine yx (zG ?_) ?_ ?_;rfl;exact (wr de_int.read de_int.read);exact zw);exact (DE.read (ya (za 6) de_int.read));(intro _ _;rfl));rfl;(first | exact Or.inl rfl | exact Or.inr rfl)) zE))) (zg (Zi (zF (zi (zh 7) (zi (zh 8) zw)))))))))
theorem VN:FnScope jD ["_law_found","_law_side","_law_turns_here","_law_due_here"] (zd wV):=#[10]
theorem zcy {f:Addr}{fd:FuncData}(T:Txt K mg C)(F:Fun K "_law_hours" "_law_hours" wV f fd) (Hag:Mx P w K mg base #[5] "at" 1 2 (xj C)) (Ha6:Fx P w K mg base "_law_at" 1 2 zY):FnOk P w K mg base CX0 2 f fd ["_law_found","_law_side","_law_turns_here","_law_due_here"] (pSp ⟨K,w⟩ 4 (len? 4 (mir jD (u5 C)))):=by
 have sc:=VN
 refine zv (k:=1) F VN (λcdv A outer s H E B hr=>?_)
 exact (zf (zq (i:=4) sc.nd #[0] #[2] (zK (zi (zu (za 1) de_int.read #[14]) (zi (zu (za 1) de_int.read #[14]) (zi (zu (za 2) de_int.read #[14]) (zi (zu (za 2) de_int.read #[14]) zw)))))) (zf (zA (z8 (yb hr.units) zL (DE.read (zu (za 3) de_int.read #[14])) (DE.read zZ) (nomark _)) (zg (zq (i:=4) sc.nd #[0] #[2] (zh 1))) zE) (zf (zU (t:=(.name 5)) PassesOwn.never #[0] (zV hb0 (DE.fix (DA.frz (zF (zi (zu (za 2) de_int.read #[14]) (zi (zu (za 2) de_int.read #[14]) (zi (zB (DE.read (zu (za 2) de_int.read #[14])) de_int.read) (zi (vc #[0] #[0] T.b_max (z6 de_int.read (z6 (DE.read (zR (DE.read (zu (za 2) de_int.read #[14])) de_int.read)) zC))) (zi (wr de_int.read de_int.read) zw (zG rfl)) (zG rfl)) (zG rfl)) (zG rfl)) (zG rfl)))))) (zm (i:=5) sc.nd #[0] #[2]) (zg (zA (z8 (wu hr.units) zL (DE.read (yH (yv (z5 T.cl_Granted T.n_Granted_hours (zh 0)) (yv (z5 T.cl_Late T.n_Late_hours (zh 0)) (z5 T.cl_NoRoom T.n_NoRoom_hours (zh 0)))) T.cl_Hours Hag #[4] (zb (ze 5) zj))) (DE.read (zz Ha6 #[4] #[0] (zb (ze 4) (zb (ze 5) zj)))) (nomark _)) (zg (zx yi)) zE))) (zg (zx yi)))))
theorem Je:FnScope q9 ["_law_script"] (zd yS):=#[10]
theorem Rz {f:Addr}{fd:FuncData}(T:Txt K mg C)(F:Fun K "law" "law" yS f fd) (Hbd:Fx P w K mg base "_law_is_good" 2 2 yz) (Hbb:Fx P w K mg base "_law_hours" 2 4 (xR C)) (Hac:Mx P w K mg base #[16] "holds" 5 2 (yN C)) (Hao:Mx P w K mg base (C "Late") "holds" 5 2 (yG C)) (Hat:Mx P w K mg base #[12] "holds" 2 2 (xf C)) (Hbc:Fx P w K mg base "_law_is" 1 2 wW) (Hab:Mx P w K mg base #[16] "granted" 1 1 (y3 C)) (Han:Mx P w K mg base (C "Late") "granted" 1 1 (y7 C)) (Has:Mx P w K mg base #[12] "granted" 1 1 (yF C)) (Had:Mx P w K mg base #[16] "told" 2 1 (y6 C)) (Hap:Mx P w K mg base (C "Late") "told" 2 1 (yw C)) (Hau:Mx P w K mg base #[12] "told" 2 1 (yA C)) (Ha9:Fx P w K mg base "_law_due" 4 5 xk) (Hbj:Fx P w K mg base "_law_told" 11 5 (xy C)) (Hbk:Fx P w K mg base "_law_turns" 1 2 yQ) (Ha8:Fx P w K mg base "_law_draw" 2 3 yq) (Hbg:Fx P w K mg base "_law_promises" 3 5 jQ) (Hbm:Fx P w K mg base "_law_world" 3 1 qw) (Haf:Kx P w K mg base #[5] "Hours" 5 2 (xw C)):FnOk P w K mg base CX0 12 f fd ["_law_script"] (pSp ⟨K,w⟩ 1 (len? 1 (mir q9 (Ze C)))):=by
 have sc:=Je
 refine zv (k:=11) F Je (λcdv A outer s H E B hr=>?_)
 exact (zf (YD (t:=(.tup [1,2,3,4])) (zz Hbm #[4] #[0] (zb (ze 0) zj)) (zO #[0] (zo (zm (i:=1) sc.nd #[0] #[2]) (zo (zm (i:=2) sc.nd #[0] #[2]) (zo (zm (i:=3) sc.nd #[0] #[2]) (zo (zm (i:=4) sc.nd #[0] #[2]) zI)))))) (zf (zq (i:=5) sc.nd #[0] #[2] (zK (zi (zh 2) (zi (zh 3) (zi de_int (zi de_int zw)))))) (zf (zq (i:=6) sc.nd #[0] #[2] (kK Haf #[4] #[0] (zb (zl (DA.frz (wj #[0] T.b_list (z6 (za 2) zC)))) (zb (ze 3) zj)))) (zf (xt (j:=7) sc.nd #[0] #[2] (ud Hbg #[4] #[0] (zb (ze 0) (zb (zl de_int) (zb (ze 1) (zb (ze 5) (zb (ze 4) zj))))))) (zf (zU (t:=(.name 8)) PassesOwn.never #[0] (J5 #[0] T.b_range (z6 de_int.read (z6 (DE.read (Q4 #[0] #[0] T.b_min (z6 (DE.read (xN #[0] T.b_len (z6 (za 0) zC))) (z6 de_int.read zC)))) zC))) (zm (i:=8) sc.nd #[0] #[2]) (zf (zq (i:=9) sc.nd #[0] #[2] (DA.frz (yn Hbk #[4] #[0] (zb (ze 4) (zb (zl (DA.frz (yn Ha8 #[4] #[0] (zb (ze 0) (zb (ze 8) (zb (zl (DA.frz (zF (zi de_int (zi de_int (zi de_int (zi de_int (zi de_int zw (zG rfl)) (zG rfl)) (zG rfl)) (zG rfl)) (zG rfl))))) zj)))))) zj))))) (zf (yB (i:=10) sc.nd #[0] #[2] (wj #[0] T.b_list (z6 (za 1) zC))) (zf (xt (j:=11) sc.nd #[0] #[2] (zam #[0] T.b_dict (yj 7 (pv 7)))) (zf (YD (t:=(.tup [12,13])) (zz Hbj #[4] #[0] (zb (ze 10) (zb (ze 6) (zb (ze 4) (zb (ze 11) (zb (ze 9) zj)))))) (zO #[0] (zo (zm (i:=12) sc.nd #[0] #[2]) (zo (zm (i:=13) sc.nd #[0] #[2]) zI)))) (zf (zA (yt (wv (z8 (wu hr.units) zL (za 10) (za 1) (nomark _)) (vJ (Uf (Nat.lt_of_le_of_lt (Nat.le_add_right _ _) hr.units) (yj 11 (pv 11)) (yj 7 (pv 7)))))) (zg (zx yi)) zE) (zf (Rh 10 PySem.F.slot_list_clear PySem.F.type_list_clear zdi zfx (pv 10)) (zf (Gv 11 (pv 11) ⟨rfl,rfl⟩) (zg (zA (yf (zS (DE.read (zz Hbd #[4] #[0] (zb (ze 4) (zb (ze 9) zj)))) (by intro _;rfl))) (zg (zA (z8 (wu hr.units) zL (za 12) (DE.read zZ) (nomark _)) (zg (zx yi)) zE)) (zf (zq (i:=14) sc.nd #[0] #[2] (zz Ha9 #[4] #[0] (zb (ze 1) (zb (ze 5) (zb (ze 4) (zb (ze 7) (zb (ze 9) zj))))))) (zf (zA (yt (wv (z8 (wu hr.units) zL (za 12) (DE.read zZ) (nomark _)) (wv (z8 (wu hr.units) zL (DE.read (yv (zX (zh 13) T.cl_Granted Had #[4]) (yv (zX (zh 13) T.cl_Late Hap #[4]) (zX (zh 13) T.cl_NoRoom Hau #[4])))) (za 14) (nomark _)) (vJ (yf (zS (DE.read (zz Hbc #[4] #[0] (zb (zl (yv (zX (zh 13) T.cl_Granted Hab #[4]) (yv (zX (zh 13) T.cl_Late Han #[4]) (zX (zh 13) T.cl_NoRoom Has #[4])))) (zb (zl (yX (yb hr.units) zL (DE.read (zu (za 14) de_int.read #[14])) (DE.read zZ) (nomark _))) zj)))) (by intro _;rfl))))))) (zg (zx yi)) zE) (zg (zA (yt (wv (z8 zd2 zco (DE.read (yv (yH (zh 13) T.cl_Granted Hac #[4] (zb (ze 7) zj)) (yv (yH (zh 13) T.cl_Late Hao #[4] (zb (ze 7) zj)) (yH (zh 13) T.cl_NoRoom Hat #[4] (zb (ze 7) zj))))) (DE.read yi) (nomark _)) (vJ (yf (zS (DE.read (zz Hbb #[4] #[0] (zb (ze 13) (zb (ze 5) (zb (ze 9) (zb (ze 14) zj)))))) (by intro _;rfl)))))) (zg (zx yi)) zE)))))))))))))) (zg (zx yi)))))))
end
open HM
open QM
def rowD (r:HM.Row):D:=.tup [.int r.1,.int r.2]
def Good (r:HM.Row):Prop:=(1<=r.1/\r.1<=100)/\0<=r.2/\r.2<=8
theorem za4 (a:Int):yY [.val (.int a)]=some (.val (.bl true)):=by
 simp[yY,mir,stE,ji,wc]
theorem Ye {a lo hi:Int}(h1:lo<=a)(h2:a<=hi):zN [.val (.int a),.val (.int lo),.val (.int hi)]=some (.val (.bl true)):=by
 simp[zN,mir,stE,xS,w5,za4,h1,h2]
theorem zem {r:HM.Row}(h:Good r):qv [.val (rowD r)]=some (.val (.bl true)):=by
 simp[qv,mir,stE,JB,Zr,rowD,Ye h.1.1 h.1.2,Ye h.2.1 h.2.2]
theorem zau {α:Type}{xs:List α}{n:Nat}(h:xs.length<=n)(hn:n<=TOP):xs.length<=TOP:=Nat.le_trans h hn
theorem t16:16<=TOP:=by decide
theorem VL:∀(rs:List HM.Row),(∀r∈rs,Good r)->compD (.name 0) tYes Y4 [none] (rs.map rowD)=some (rs.map λ_=>D.bl true)
 | [],_=>by simp
 |r::rs,h=>by
  have h1:=zem (h r (by simp))
  have ih:=VL rs λq hq=>h q (by simp[hq])
  simp only[List.map_cons,qN,zbg,Option.bind_some,Ud,if_true,ih,Option.map_some]
  simp[Y4,h1]
theorem J4 {α:Type}:∀(rs:List α),asBs (rs.map λ_=>D.bl true)=some (rs.map λ_=>true)
 | []=>rfl
 |r::rs=>by simp[asBs,J4 rs]
theorem UU {rs:List HM.Row}{rest:Int}(h:∀r∈rs,Good r)(hl:rs.length<=16)(h1:1<=rest)(h2:rest<=8):qx [.val (.lst (rs.map rowD)),.val (.int rest)]=some (.val .non):=by
 have e:=VL rs h
 have e2:=J4 rs
 have e3:=Ye h1 h2
 have ht:rs.length<=TOP:=zau hl t16
 simp only[qx,mir,stE,jR,Yc]
 have hl':¬((16:Int) < (rs.length:Int)):=by omega
 simp[e,e2,e3,ht,hl,hl']
theorem VB (R:Option En)(rest:D):∀(rs acc:List HM.Row) (x y:Option En),Pos rs->acc.length+rs.length<=1000 ->
  ∃(x' y':Option En),forD (.tup [3,4]) y1 (rs.map rowD) [R,some (.val rest),some (.acc (acc.map rowD)),x,y]=some (.next [R,some (.val rest),some (.acc ((rs.foldl kstep acc).map rowD)),x',y'])
 | [],acc,x,y,_,_=>⟨x,y,by simp⟩
 |r::rs,acc,x,y,hp,hl=>by
  simp only[List.length_cons] at hl
  obtain⟨h1,h2⟩:=Pos.cons.mp hp
  have hk:=ZE acc r
  obtain⟨x',y',e⟩:=VB R rest rs (kstep acc r) (some (.val (.int r.1))) (some (.val (.int r.2))) h2 #[1]
  refine⟨x',y',?_⟩
  rw[List.foldl_cons,<-e]
  have ht:acc.length<=TOP:=by simp[TOP];omega
  rcases List.eq_nil_or_concat acc with rfl | ⟨pre,q,rfl⟩
  ·simp[y1,rowD,kstep,h1.1,TOP]
  ·rw[List.concat_eq_append] at ht ⊢
   have hk:kstep (pre++[q]) r=if q.2=r.2 then pre++[(q.1+r.1,r.2)] else pre++[q]++[r]:=by
    unfold kstep;rw[List.getLast?_concat];simp only[List.dropLast_concat]
   rw[hk]
   have ea:atI ((pre++[q]).map rowD) (-1)=some (rowD q):=by rw[List.map_append];exact jm
   have en:ixN (pre.length+1) (-1)=some pre.length:=Yx _
   have es:∀d:D,(pre.map rowD++[rowD q]).set pre.length d=pre.map rowD++[d]:=λd=>by
    rw[List.set_append_right _ _ (by simp)];simp
   have ea':atI (pre.map rowD++[rowD q]) (-1)=some (rowD q):=jm
   by_cases c:q.2=r.2
   ·rw[if_pos c]
    simp[y1,ea',en,es,rowD,c,TOP] at ht ⊢
    try simp[rowD] at ea' es
   ·rw[if_neg c]
    simp[y1,ea',rowD,c,TOP,h1.1] at ht ⊢
    simp[rowD] at ea'
    simp[ea',c,ht]
theorem zgi {rs:List HM.Row}{rest:Int}(h:Pos rs)(hl:rs.length<=500):yU [.val (.lst (rs.map rowD)),.val (.int rest)]=some (.acc ((krows rest rs).map rowD)):=by
 obtain⟨x',y',e⟩:=VB (some (.val (.lst (rs.map rowD)))) (.int rest) rs [] none none h #[18]
 simp only[yU,mir,stE,jK,kI]
 simp at e
 simp[e,TOP]
 unfold krows kend
 rcases List.eq_nil_or_concat (rs.foldl kstep []) with h0 | ⟨pre,q,h0⟩
 ·rw[h0];simp
 ·rw[List.concat_eq_append] at h0
  rw[h0]
  have ea':atI (pre.map rowD++[rowD q]) (-1)=some (rowD q):=jm
  by_cases c:q.2=rest
  ·simp[ea',rowD,c]
   try simp[rowD] at ea'
  ·simp[ea',rowD,c]
   try simp[rowD] at ea'
theorem t2':2<=TOP:=by decide
theorem Zu (R:Option En)(rest:D):∀(rs acc:List HM.Row) (x y:Option En),NN rs->acc.length+rs.length<=1000 ->
  ∃(x' y':Option En),forD (.tup [3,4]) y1 (rs.map rowD) [R,some (.val rest),some (.acc (acc.map rowD)),x,y]=some (.next [R,some (.val rest),some (.acc (((fil rs).foldl kstep acc).map rowD)),x',y'])
 | [],acc,x,y,_,_=>⟨x,y,by simp[fil]⟩
 |r::rs,acc,x,y,hp,hl=>by
  simp only[List.length_cons] at hl
  have h0:=hp r (by simp)
  have hp':NN rs:=λq hq=>hp q (by simp[hq])
  have ht:acc.length<=TOP:=by simp[TOP];omega
  by_cases h1:0 < r.1
  ·have hk:=ZE acc r
   obtain⟨x',y',e⟩:=Zu R rest rs (kstep acc r) (some (.val (.int r.1))) (some (.val (.int r.2))) hp' #[1]
   refine⟨x',y',?_⟩
   have hf:fil (r::rs)=r::fil rs:=List.filter_cons_of_pos (by simpa using h1)
   rw[hf,List.foldl_cons,<-e]
   rcases List.eq_nil_or_concat acc with rfl | ⟨pre,q,rfl⟩
   ·simp[y1,rowD,kstep,h1,TOP]
   ·rw[List.concat_eq_append] at ht ⊢
    have hk:kstep (pre++[q]) r=if q.2=r.2 then pre++[(q.1+r.1,r.2)] else pre++[q]++[r]:=by
     unfold kstep;rw[List.getLast?_concat];simp only[List.dropLast_concat]
    rw[hk]
    have en:ixN (pre.length+1) (-1)=some pre.length:=Yx _
    have es:∀d:D,(pre.map rowD++[rowD q]).set pre.length d=pre.map rowD++[d]:=λd=>by
     rw[List.set_append_right _ _ (by simp)];simp
    have ea':atI (pre.map rowD++[rowD q]) (-1)=some (rowD q):=jm
    by_cases c:q.2=r.2
    ·rw[if_pos c]
     simp[y1,ea',en,es,rowD,c,TOP] at ht ⊢
     try simp[rowD] at ea' es
    ·rw[if_neg c]
     simp[y1,ea',rowD,c,TOP,h1] at ht ⊢
     simp[rowD] at ea'
     simp[ea',c,ht]
  ·have hz:r.1=0:=by omega
   obtain⟨x',y',e⟩:=Zu R rest rs acc (some (.val (.int r.1))) (some (.val (.int r.2))) hp' #[1]
   refine⟨x',y',?_⟩
   have hf:fil (r::rs)=fil rs:=List.filter_cons_of_neg (by simpa using h1)
   rw[hf,<-e]
   rcases List.eq_nil_or_concat acc with rfl | ⟨pre,q,rfl⟩
   ·simp[y1,rowD,hz]
   ·rw[List.concat_eq_append] at ht ⊢
    have en:ixN (pre.length+1) (-1)=some pre.length:=Yx _
    have es:∀d:D,(pre.map rowD++[rowD q]).set pre.length d=pre.map rowD++[d]:=λd=>by
     rw[List.set_append_right _ _ (by simp)];simp
    have ea':atI (pre.map rowD++[rowD q]) (-1)=some (rowD q):=jm
    by_cases c:q.2=r.2
    ·simp[rowD] at ea' es ht ⊢
     simp[y1,ea',en,es,c,hz,t2',ht]
    ·simp[rowD] at ea'
     simp[y1,ea',rowD,c,hz]
theorem GY {rs:List HM.Row}{rest:Int}{x:En}(hx:x=.val (.lst (rs.map rowD))∨x=.bor (rs.map rowD))(h:NN rs)(hl:rs.length<=500):yU [x,.val (.int rest)]=some (.acc ((krows rest (fil rs)).map rowD)):=by
 obtain⟨x',y',e⟩:=Zu (some x) (.int rest) rs [] none none h #[18]
 have key:∀L:List HM.Row,(match L.map rowD with | []=>some (Fl.ret (.acc (L.map rowD))) | _=>some (Fl.ret (.acc (L.map rowD))))=some (Fl.ret (.acc (L.map rowD))):=λL=>by cases L<;>rfl
 simp at e
 rcases hx with rfl | rfl
 all_goals
  simp only[yU,mir,stE,jK,kI]
  simp[e,TOP]
  unfold krows kend
  rcases List.eq_nil_or_concat ((fil rs).foldl kstep []) with h0 | ⟨pre,q,h0⟩
  ·rw[h0];simp
  ·rw[List.concat_eq_append] at h0
   rw[h0]
   have ea':atI (pre.map rowD++[rowD q]) (-1)=some (rowD q):=jm
   by_cases c:q.2=rest
   ·simp[ea',rowD,c]
    try simp[rowD] at ea'
   ·simp[ea',rowD,c]
    try simp[rowD] at ea'
def spanD (p:Int×HM.Row):D:=.tup [.int p.1,.int (p.1+p.2.1),.int p.2.2]
def spans:Int->List HM.Row->List (Int×HM.Row)
 |_,[]=>[]
 |s,r::rs=>(s,r)::spans (s+r.1) rs
theorem Y6 (R:En):∀(rs:List HM.Row) (s:Int) (acc:List D) (x y:Option En),acc.length+rs.length<=1000 ->
  ∃(s':Int) (x' y':Option En),forD (.tup [3,4]) uK (rs.map rowD) [some R,some (.acc acc),some (.val (.int s)),x,y]=some (.next [some R,some (.acc (acc++(spans s rs).map spanD)),some (.val (.int s')),x',y'])
 | [],s,acc,x,y,_=>⟨s,x,y,by simp[spans]⟩
 |r::rs,s,acc,x,y,hl=>by
  simp only[List.length_cons] at hl
  obtain⟨s',x',y',e⟩:=Y6 R rs (s+r.1) (acc++[spanD (s,r)]) (some (.val (.int r.1))) (some (.val (.int r.2))) #[18]
  refine⟨s',x',y',?_⟩
  have ht:acc.length<=TOP:=by simp[TOP];omega
  rw[List.append_assoc] at e
  simp only[spans,List.map_cons]
  rw[show acc++spanD (s,r)::(spans (s+r.1) rs).map spanD=acc++([spanD (s,r)]++(spans (s+r.1) rs).map spanD) from rfl,<-e]
  have t3:3<=TOP:=by decide
  simp[uK,rowD,spanD,ht,t3]
theorem KC {rs:List HM.Row}(hl:rs.length<=500):yP [.val (.lst (rs.map rowD))]=some (.acc ((spans 0 rs).map spanD)):=by
 obtain⟨s',x',y',e⟩:=Y6 (.val (.lst (rs.map rowD))) rs 0 [] none none #[18]
 simp only[yP,mir,stE,jV,uw]
 simp at e
 simp[e]
theorem zca {rs:List HM.Row}(hl:rs.length<=500):yP [.bor (rs.map rowD)]=some (.acc ((spans 0 rs).map spanD)):=by
 obtain⟨s',x',y',e⟩:=Y6 (.bor (rs.map rowD)) rs 0 [] none none #[18]
 simp only[yP,mir,stE,jV,uw]
 simp at e
 simp[e]
theorem Uw:¬(("spans" : Str) = "kept_rest"):=by decide +kernel
theorem zdn:¬(("kept_rest" : Str) = "spans"):=by decide +kernel
def FS:List Str:=["kept_rest","spans"]
def hoursD (C:Addr)(rest:Int)(ks:List HM.Row):D:=.obj C FS [.int rest,.lst ((spans 0 ks).map spanD)]
theorem Kd {a b:D}:lookZ "kept_rest" FS [a,b]=some a:=by simp[lookZ,FS]
theorem xW {a b:D}:lookZ "spans" FS [a,b]=some b:=by simp[lookZ,FS,Uw]
theorem UV (C:Str->Addr)(a dx:Addr){rs:List HM.Row}{rest:Int}(h:∀r∈rs,Good r)(hl:rs.length<=16)(h1:1<=rest)(h2:rest<=8)(hp:Pos rs) :
  mirI #[5] jT (jW C) a dx [.val (.lst (rs.map rowD)),.val (.int rest)]=some (FS,[.int rest,.lst ((spans 0 (krows rest rs)).map spanD)]):=by
 have e1:=UU h hl h1 h2
 have e2:=zgi (rest:=rest) hp #[1]
 have e3:=KC (rs:=krows rest rs) (Nat.le_trans (Z6 rest rs) #[1])
 simp only[mirI,stE,jT,jW]
 simp[e1,e2,e3,putZ,zdn,outI,outJ,FS]
theorem Jp (C:Str->Addr){rs:List HM.Row}{rest:Int}(h:∀r∈rs,Good r)(hl:rs.length<=16)(h1:1<=rest)(h2:rest<=8)(hp:Pos rs) :
  xw C [.val (.lst (rs.map rowD)),.val (.int rest)]=some (FS,[.int rest,.lst ((spans 0 (krows rest rs)).map spanD)]):=UV C 0 0 h hl h1 h2 hp
theorem Ga {g1 g2 g3:EnvD->Option D}{n1 n2:Str}(h1:∀o o' l,g1 (o::l)=g1 (o'::l))(h2:∀o o' l,g2 (o::l)=g2 (o'::l))(h3:∀o o' l,g3 (o::l)=g3 (o'::l))(C a dx:Addr)(l:EnvD) :
  outI a dx C (sSeq (sExpr g1) (sSeq (sFldD 0 C n1 g2) (sFldD 0 C n2 g3)) (some (.oac a dx C [] [])::l))=outI 0 0 C (sSeq (sExpr g1) (sSeq (sFldD 0 C n1 g2) (sFldD 0 C n2 g3)) (some (.oac 0 0 C [] [])::l)):=by
 have e1:=h1 (some (.oac a dx C [] [])) (some (.oac 0 0 C [] [])) l
 have e2:=h2 (some (.oac a dx C [] [])) (some (.oac 0 0 C [] [])) l
 cases q1:g1 (some (.oac 0 0 C [] [])::l) with
 |none=>rw[q1] at e1;simp[e1,q1,outI]
 |some d1=>
  rw[q1] at e1
  cases q2:g2 (some (.oac 0 0 C [] [])::l) with
  |none=>rw[q2] at e2;simp[e1,q1,e2,q2,outI]
  |some d2=>
   rw[q2] at e2
   simp[e1,q1,e2,q2]
   have e3:=h3 (some (.oac a dx C (putZ n1 d2 [] []).1 (putZ n1 d2 [] []).2)) (some (.oac 0 0 C (putZ n1 d2 [] []).1 (putZ n1 d2 [] []).2)) l
   cases q3:g3 (some (.oac 0 0 C (putZ n1 d2 [] []).1 (putZ n1 d2 [] []).2)::l) with
   |none=>rw[q3] at e3;simp[putZ] at e3 q3;simp[e3,q3,outI,putZ]
   |some d3=>rw[q3] at e3;simp[putZ] at e3 q3;simp[e3,q3,outI,outJ,putZ]
theorem zek (C:Str->Addr)(a dx:Addr)(xs:List En):mirI #[5] jT (jW C) a dx xs=xw C xs:=by
 unfold xw mirI stE
 exact Ga (λo o' l=>by simp) (λo o' l=>by simp) (λo o' l=>by simp) #[5] a dx _
theorem t2:2<=TOP:=by decide
theorem kS:∀(s:Int) (ks:List HM.Row),(spans s ks).length=ks.length
 |_,[]=>rfl
 |s,r::rs=>by simp[spans,kS (s+r.1) rs]
def stp (s:Int):List HM.Row->Nat->Int
 | [],_=>s
 |r::_,0=>s+r.1
 |r::rs,i+1=>stp (s+r.1) rs i
def cntK (rest:Int):List HM.Row->Nat->Int
 | [],_=>rest
 |r::_,0=>r.2
 |_::rs,i+1=>cntK rest rs i
theorem Yv (rest:Int):∀(ks:List HM.Row) (s:Int) (i:Nat),i < ks.length->∃(a:Int) (r:HM.Row),(spans s ks)[i]?=some (a,r)/\a+r.1=stp s ks i/\r.2=cntK rest ks i
 |r::rs,s,0,_=>⟨s,r,by simp[spans],rfl,rfl⟩
 |r::rs,s,i+1,h=>by
  obtain⟨a,q,h1,h2,h3⟩:=Yv rest rs (s+r.1) i (by simpa using h)
  exact⟨a,q,by simpa[spans] using h1,h2,h3⟩
theorem QT:∀(ks:List HM.Row) (s:Int) (i:Nat),Pos ks->s<=stp s ks i
 | [],_,_,_=>Int.le_refl _
 |r::rs,s,0,h=>by have:=(Pos.cons.mp h).1.1;simp only[stp];omega
 |r::rs,s,i+1,h=>by have:=(Pos.cons.mp h).1.1;have:=QT rs (s+r.1) i (Pos.cons.mp h).2;simp only[stp];omega
theorem Jy:∀(ks:List HM.Row) (s:Int) (i j:Nat),Pos ks->i<=j->stp s ks i<=stp s ks j
 | [],_,_,_,_,_=>Int.le_refl _
 |r::rs,s,0,0,_,_=>Int.le_refl _
 |r::rs,s,0,j+1,h,_=>QT rs (s+r.1) j (Pos.cons.mp h).2
 |r::rs,s,i+1,0,_,h=>by omega
 |r::rs,s,i+1,j+1,h,hj=>Jy rs (s+r.1) i j (Pos.cons.mp h).2 #[1]
theorem JX (rest x:Int):∀(ks:List HM.Row) (s:Int) (lo:Nat),(∀i,i < lo->stp s ks i<=x)->(lo < ks.length->x < stp s ks lo)->lo<=ks.length->atR rest ks (x - s)=cntK rest ks lo
 | [],_,_,_,_,_=>rfl
 |r::rs,s,0,_,h2,_=>by
  have h:=h2 (by simp)
  simp only[stp] at h
  have h':x - s < r.1:=by omega
  simp[atR,h',cntK]
 |r::rs,s,lo+1,h1,h2,h3=>by
  have h:=h1 0 #[1]
  simp only[stp] at h
  have h':¬(x - s < r.1):=by omega
  have e:x - s - r.1=x - (s+r.1):=by omega
  simp only[atR,if_neg h',e,cntK]
  exact JX rest x rs (s+r.1) lo (λi hi=>h1 (i+1) #[1]) (λhl=>h2 (by simpa using hl)) (by simpa using h3)
theorem atI_nat {α:Type}{xs:List α}{i:Nat}{v:α}(h:xs[i]?=some v):atI xs (i:Int)=some v:=wm i h
theorem uP (C:Str->Addr)(fs:List Str)(ds:List D)(rest x:Int)(ks:List HM.Row)(hp:Pos ks)(hs:lookZ "spans" fs ds=some (.lst ((spans 0 ks).map spanD))):∀(k lo hi:Nat) (m:Option En),hi - lo<=k->lo<=hi->hi<=ks.length->(∀i,i < lo->stp 0 ks i<=x)->(hi < ks.length->x < stp 0 ks hi) ->
  ∃(lo':Nat) (m':Option En),(lo'<=ks.length/\(∀i,i < lo'->stp 0 ks i<=x)/\(lo' < ks.length->x < stp 0 ks lo')) /\
   whileD (gb' (g2 fLt (gr 2) (gr 3))) (uv C) (k+1) [some (.val (.obj #[5] fs ds)),some (.val (.int x)),some (.val (.int (lo:Int))),some (.val (.int (hi:Int))),m]
    = some (.next [some (.val (.obj #[5] fs ds)),some (.val (.int x)),some (.val (.int (lo':Int))),some (.val (.int (lo':Int))),m'])
 |0,lo,hi,m,hk,hle,hn,h1,h2=>by
  have:lo=hi:=by omega
  subst this
  refine⟨lo,m,⟨hn,h1,h2⟩,?_⟩
  rw[kO]
  simp
 |k+1,lo,hi,m,hk,hle,hn,h1,h2=>by
  by_cases hlt:lo < hi
  ·obtain⟨mid,hm⟩:∃mid:Nat,mid=(lo+hi) / 2:=⟨_,rfl⟩
   have em:((lo:Int)+(hi:Int)) / 2=(mid:Int):=by omega
   have m1:lo<=mid:=by omega
   have m2:mid < hi:=by omega
   clear hm
   obtain⟨a,r,g1,g2',g3⟩:=Yv rest ks 0 mid #[1]
   have ei:atI ((spans 0 ks).map spanD) (mid:Int)=some (spanD (a,r)):=atI_nat (by simp[g1])
   have t1:atI (α:=D) [.int a,.int (a+r.1),.int r.2] 1=some (.int (a+r.1)):=rfl
   have hl2:(lo:Int) < (hi:Int):=by omega
   by_cases hx:x < stp 0 ks mid
   ·obtain⟨lo',m',p,e⟩:=uP C fs ds rest x ks hp hs k lo mid (some (.val (.int (mid:Int)))) #[1] #[1] #[1] h1 (λ_=>hx)
    refine⟨lo',m',p,?_⟩
    have hx':x < a+r.1:=by rw[g2'];exact hx
    rw[jE (ρ2:=[some (.val (.obj #[5] fs ds)),some (.val (.int x)),some (.val (.int (lo:Int))),some (.val (.int (mid:Int))),some (.val (.int (mid:Int)))]) (by simp[hl2]) (by
     simp[uv,wE,em,hs,ei,spanD,t1,hx']),e]
   ·obtain⟨lo',m',p,e⟩:=uP C fs ds rest x ks hp hs k (mid+1) hi (some (.val (.int (mid:Int)))) #[1] #[1] #[1] (λi hi'=>Int.le_trans (Jy ks 0 i mid hp #[1]) #[1]) h2
    refine⟨lo',m',p,?_⟩
    have hx':¬(x < a+r.1):=by rw[g2'];exact hx
    rw[jE (ρ2:=[some (.val (.obj #[5] fs ds)),some (.val (.int x)),some (.val (.int ((mid+1:Nat):Int))),some (.val (.int (hi:Int))),some (.val (.int (mid:Int)))]) (by simp[hl2]) (by
     simp[uv,wE,em,hs,ei,spanD,t1,hx']),e]
  ·have:lo=hi:=by omega
   subst this
   refine⟨lo,m,⟨hn,h1,h2⟩,?_⟩
   rw[kO]
   simp
theorem Yp (C:Str->Addr){rest x:Int}{ks:List HM.Row}(hp:Pos ks):xj C [.val #[25],.val (.int x)]=some (.val (.int (atR rest ks x))):=by
 obtain⟨lo,m,⟨p1,p2,p3⟩,e⟩:=uP C FS [.int rest,.lst ((spans 0 ks).map spanD)] rest x ks hp xW ks.length 0 ks.length none #[1] #[1] #[1] (λi hi=>by omega) (λh=>by omega)
 have ea:=JX rest x ks 0 lo p2 p3 p1
 rw[Int.sub_zero] at ea
 have ew:=Yq e
 simp only[xj,mir,stE,qS,Zl,hoursD]
 simp only[Int.natCast_zero] at ew
 by_cases hlt:lo < ks.length
 ·obtain⟨a,r,g1,g2',g3⟩:=Yv rest ks 0 lo hlt
  have ei:atI ((spans 0 ks).map spanD) (lo:Int)=some (spanD (a,r)):=atI_nat (by simp[g1])
  have t1:atI (α:=D) [.int a,.int (a+r.1),.int r.2] 2=some (.int r.2):=rfl
  have h':(lo:Int) < (ks.length:Int):=by omega
  simp[xW,kS,ew,ei,spanD,t1,h',ea,g3]
 ·have h':¬((lo:Int) < (ks.length:Int)):=by omega
  have e0:cntK rest ks lo=rest:=by
   have:∀(l:List HM.Row) (i:Nat),l.length<=i->cntK rest l i=rest:=by
    intro l
    induction l with
    |nil=>intro i _;rfl
    |cons q qs ih=>intro i hi;match i,hi with | i+1,hi=>exact ih i (by simpa using hi)
   exact this ks lo #[1]
  simp[xW,kS,ew,h',Kd,ea,e0]
section
variable (C:Str->Addr){rs:List HM.Row}{rest:Int}
theorem ju {m:Str}(h1:¬(m = "kept_rest")) (h2:¬(m = "spans")) {r:Int} {x:List D}:lookZ m FS [D.int r,D.lst x]=none:=by simp[lookZ,FS,h1,h2]
theorem kP {r:Int}{x:List D}:lookZ "at" FS [D.int r,D.lst x]=none:=ju #[13] #[13]
structure Fit (rs:List HM.Row)(rest:Int):Prop where
 good:∀r∈rs,Good r
 len:rs.length<=16
 lo:1<=rest
 hi:rest<=8
theorem Fit.pos (F:Fit rs rest):Pos rs:=λr hr=>⟨by have:=(F.good r hr).1.1;omega,(F.good r hr).2.1⟩
end
theorem Yy {e:EnvD->Option D}(he:∀a b,e [some (.val a),some (.val b)]=some a):∀(q:List (Str×Int)),compD (.tup [0,1]) tYes e [none,none] #[6]=some ((q.map (·.1)).map D.str)
 | []=>by simp
 |t::q=>by
  have ih:=Yy he q
  simp only[List.map_cons,qN,ih]
  simp[tkD,he]
theorem JV {q:List (Str×Int)}(hl:q.length<=1000):qm [.val (.lst #[6])]=some (.acc ((q.map (·.1)).map D.str)):=by
 have e:=Yy (e:=Zm) (λa b=>by simp[Zm]) q
 have ht:q.length<=TOP:=by simp[TOP];omega
 simp at e
 simp[qm,mir,stE,W9,YI,ht,e]
theorem km:∀(q:List (Str×Int)),compD (.tup [0,1]) (gb' (g2 fGt (gr 1) #[15])) uo [none,none] #[6]=some (((q.filter λt=>decide (1 < t.2)).map λt=>(t.1,t.2 - 1)).map tkD)
 | []=>by simp
 |t::q=>by
  have ih:=km q
  simp only[List.map_cons,qN,ih]
  by_cases h:1 < t.2
  ·rw[List.filter_cons,if_pos (by simpa using h)]
   simp[tkD,uo,h,t2]
  ·rw[List.filter_cons,if_neg (by simpa using h)]
   simp[tkD,uo,h]
theorem U7 {q A Bq:List (Str×Int)}{m:Int}(c1:cutD #[6] none (some m)=A.map tkD)(c2:cutD #[6] (some m) none=Bq.map tkD)(hA:A.length<=1000)(hB:Bq.length<=1000) :
  xh [.val (.lst #[6]),.val (.int m)]=some (.val (.tup [.lst ((A.map (·.1)).map D.str),.lst (((A.filter λt=>decide (1 < t.2)).map λt=>(t.1,t.2 - 1)).map tkD++Bq.map tkD)])):=by
 have e1:=km A
 have e2:=JV hA
 have hf:=List.length_filter_le (λt:Str×Int=>decide (1 < t.2)) A
 have ht:A.length<=TOP:=by simp[TOP];omega
 have ht3:(A.filter λt=>decide (1 < t.2)).length+Bq.length<=TOP:=by simp only[TOP];omega
 simp at e1 e2
 simp[xh,mir,stE,v2,uq,c1,c2,ht,e1,e2,ht3,t2]
theorem zf6 {q:List (Str×Int)}{m:Int}(hl:q.length<=1000)(hm:0<=m) :
  xh [.val (.lst #[6]),.val (.int m)]=some (.val (.tup [.lst ((srv m.toNat q).map D.str),.lst ((beh m.toNat q).map tkD)])):=by
 have c1:cutD #[6] none (some m)=(q.take m.toNat).map tkD:=by rw[uF hm,List.map_take]
 have c2:cutD #[6] (some m) none=(q.drop m.toNat).map tkD:=by rw[qV hm,List.map_drop]
 rw[U7 c1 c2 (by rw[List.length_take];omega) (by rw[List.length_drop];omega),beh,List.map_append]
 rfl
theorem zeg {q A Bq:List (Str×Int)}{m:Int}(c1:cutD #[6] none (some m)=A.map tkD)(c2:cutD #[6] (some m) none=Bq.map tkD)(hA:A.length<=1000)(hB:Bq.length<=1000) :
  xh [.bor #[6],.val (.int m)]=some (.val (.tup [.lst ((A.map (·.1)).map D.str),.lst (((A.filter λt=>decide (1 < t.2)).map λt=>(t.1,t.2 - 1)).map tkD++Bq.map tkD)])):=by
 have e1:=km A
 have e2:=JV hA
 have hf:=List.length_filter_le (λt:Str×Int=>decide (1 < t.2)) A
 have ht:A.length<=TOP:=by simp[TOP];omega
 have ht3:(A.filter λt=>decide (1 < t.2)).length+Bq.length<=TOP:=by simp only[TOP];omega
 simp at e1 e2
 simp[xh,mir,stE,v2,uq,c1,c2,ht,e1,e2,ht3,t2]
theorem Gb {q:List (Str×Int)}{m:Int}(hl:q.length<=1000)(hm:0<=m) :
  xh [.bor #[6],.val (.int m)]=some (.val (.tup [.lst ((srv m.toNat q).map D.str),.lst ((beh m.toNat q).map tkD)])):=by
 have c1:cutD #[6] none (some m)=(q.take m.toNat).map tkD:=by rw[uF hm,List.map_take]
 have c2:cutD #[6] (some m) none=(q.drop m.toNat).map tkD:=by rw[qV hm,List.map_drop]
 rw[zeg c1 c2 (by rw[List.length_take];omega) (by rw[List.length_drop];omega),beh,List.map_append]
 rfl
theorem Ka {rest:Int}:∀(rs:List HM.Row) (x:Int),(∀r∈rs,0<=r.2)->0<=rest->0<=atR rest rs x
 | [],_,_,h=>h
 |r::rs,x,h,hr=>by
  simp only[atR]
  split
  ·exact h r (by simp)
  ·exact Ka rs _ (λq hq=>h q (by simp[hq])) hr
theorem QE {rest:Int}:∀(rs:List HM.Row) (x:Int),total rs<=x->Pos rs->atR rest rs x=rest
 | [],_,_,_=>rfl
 |r::rs,x,h,hp=>by
  have h1:=Kw (Pos.cons.mp hp).2
  simp only[total] at h
  simp only[atR]
  rw[if_neg #[1]]
  exact QE rs _ #[1] (Pos.cons.mp hp).2
def Lq (x:En)(ds:List D):Prop:=x=.val (.lst ds)∨x=.bor ds
structure HOk (rest:Int)(ks:List HM.Row)(zc:Int->Nat):Prop where
 pos:Pos ks
 lo:1<=rest
 dec:∀x,0<=x->atR rest ks x<=0->zc (x+1)+1<=zc x
 mono:∀x,zc (x+1)<=zc x
theorem HOk.nn {rest:Int}{ks:List HM.Row}{zc:Int->Nat}(h:HOk rest ks zc)(x:Int):0<=atR rest ks x:=Ka ks x (λr hr=>(h.pos r hr).2) (by have:=h.lo;omega)
theorem Wh (C:Str->Addr){rest:Int}{ks:List HM.Row}{zc:Int->Nat}(F:HOk rest ks zc)(b0:Int)(hb0:0<=b0)(X0 X3:Option En):∀(n:Nat) (q:List (Str×Int)) (acc:List #[17]) (x4:En) (a b:Option En),Lq x4 #[6]->PosQ q->(∀t∈q,Ok t.1)->q.length<=100->sumQ q+zc (b0+acc.length)<=n->acc.length+n<=5000 ->
  ∃(out:List #[17]) (v4 v6 v7:Option En),((∀r∈out,(∀y∈r.2,Ok y)/\r.2.length<=100)/\Run (atR rest ks) (b0+acc.length) q out/\out.length<=n) /\
   whileD (gt (gr 4)) (vO C) (n+1) [X0,some (.val #[25]),some (.val (.int b0)),X3,some x4,some (.acc (acc.map rnD)),a,b]
    = some (.next [X0,some (.val #[25]),some (.val (.int b0)),X3,v4,some (.acc ((acc++out).map rnD)),v6,v7])
 |n,q,acc,x4,a,b,hx4,hp,ho,hl,hs,ha=>by
  by_cases hq:q=[]
  ·subst hq
   refine⟨[],some x4,a,b,⟨by simp,.nil _,by simp⟩,?_⟩
   rw[kO]
   ·simp
   ·rcases hx4 with rfl | rfl<;>simp
  ·have hql:1<=q.length:=by cases q with | nil=>exact (hq rfl).elim | cons=>simp
   have hn:=F.nn (b0+acc.length)
   have e1:=Yp C (rest:=rest) (x:=b0+(acc.length:Int)) (ks:=ks) F.pos
   have e2:=zf6 (q:=q) (m:=atR rest ks (b0+acc.length)) #[1] hn
   have e2b:=Gb (q:=q) (m:=atR rest ks (b0+acc.length)) #[1] hn
   have hsum:=VA (m:=(atR rest ks (b0+acc.length)).toNat) hp
   have hdec:sumQ (beh (atR rest ks (b0+acc.length)).toNat q)+zc (b0+acc.length+1)+1<=n:=by
    by_cases hx:atR rest ks (b0+acc.length)<=0
    ·have:=F.dec (b0+acc.length) #[1] hx
     omega
    ·have:=F.mono (b0+acc.length)
     omega
   have hb:=Jn (m:=(atR rest ks (b0+acc.length)).toNat) (q:=q)
   match n,hs,ha,hdec with
   |n+1,hs,ha,hdec=>
    have el:b0+(((acc++[(b0+(acc.length:Int),srv (atR rest ks (b0+acc.length)).toNat q)]).length:Nat):Int)=b0+acc.length+1:=by simp;omega
    obtain⟨out,v4,v6,v7,⟨o1,o1r,o1l⟩,o2⟩:=Wh C F b0 hb0 X0 X3 n (beh (atR rest ks (b0+acc.length)).toNat q) (acc++[(b0+acc.length,srv (atR rest ks (b0+acc.length)).toNat q)]) (.val (.lst ((beh (atR rest ks (b0+acc.length)).toNat q).map tkD))) (some (.val (.int (b0+acc.length)))) (some (.val (.tup [.lst ((srv (atR rest ks (b0+acc.length)).toNat q).map D.str),.lst ((beh (atR rest ks (b0+acc.length)).toNat q).map tkD)]))) (.inl rfl) (VQ hp) (KD Ok ho) #[1] (by rw[el];omega) #[18]
    rw[el] at o1r
    refine⟨(b0+acc.length,srv (atR rest ks (b0+acc.length)).toNat q)::out,v4,v6,v7,⟨?_,.cons hq o1r,by simp;omega⟩,?_⟩
    ·intro r hr
     rcases List.mem_cons.mp hr with rfl | hr
     ·refine⟨λy hy=>?_,?_⟩
      ·obtain⟨t,ht,rfl⟩:=List.mem_map.mp hy
       exact ho t (List.mem_of_mem_take ht)
      ·show (srv (atR rest ks (b0+acc.length)).toNat q).length<=100
       unfold srv
       rw[List.length_map,List.length_take];omega
     ·exact o1 r hr
    ·have hT:acc.length<=TOP:=by simp[TOP];omega
     simp[hoursD] at e1
     rcases hx4 with rfl | rfl
     ·rw[jE (ρ2:=_) (by simp[hq]) (show vO C _=some (.next _) from by
       simp[vO,hoursD,kP,e1,e2,hT,t2]
       rfl)]
      simp[hoursD,rnD] at o2 ⊢
      exact o2
     ·rw[jE (ρ2:=_) (by simp[hq]) (show vO C _=some (.next _) from by
       simp[vO,hoursD,kP,e1,e2b,hT,t2]
       rfl)]
      simp[hoursD,rnD] at o2 ⊢
      exact o2
theorem Ue (C:Str->Addr){x:En}{rest:Int}{ks:List HM.Row}{zc:Int->Nat}(F:HOk rest ks zc){b0:Int}(hb:0<=b0)(hz:zc b0<=2000){q:SI}(hp:PosQ q)(ho:∀t∈q,Ok t.1)(hl:q.length<=60)(hs:sumQ q<=1200)(hx:Lq x #[6]) :
  ∃out:List #[17],(∀r∈out,(∀y∈r.2,Ok y)/\r.2.length<=100)/\Run (atR rest ks) b0 q out/\out.length<=5000 /\
   wC C [x,.val #[25],.val (.int b0),.val .non]=some (.acc (out.map rnD)):=by
 obtain⟨out,v4,v6,v7,⟨o1,o1r,o1l⟩,o2⟩:=Wh C F b0 hb (some x) (some (.val .non)) (sumQ q+zc b0) q [] x none none hx hp ho #[1] (by simp) #[18]
 refine⟨out,o1,by simpa using o1r,by omega,?_⟩
 have o3:=Yq o2
 simp at o3
 rcases hx with rfl | rfl<;>simp[wC,mir,stE,uj,Z1,o3]
theorem Ks (X0 X3:Option En)(v:Int):∀(xs:List Str) (d:SI) (a:Option En),d.length+xs.length<=1000000->∃a':Option En,
  forD (.name 4) Yg (xs.map D.str) [X0,some (.dct none (kv d)),some (.val (.int v)),X3,a]=some (.next [X0,some (.dct none (kv (xs.foldl (λd n=>putS d n v) d))),some (.val (.int v)),X3,a'])
 | [],d,a,_=>⟨a,by simp⟩
 |x::xs,d,a,hl=>by
  simp only[List.length_cons] at hl
  have hz:(kv d).length < sizeLine:=by rw[YG,sizeLine_eq];omega
  have hp:=kZ x v d
  have h2:=jG x v d
  obtain⟨a',p⟩:=Ks X0 X3 v xs (putS d x v) (some (.val (.str x))) #[1]
  refine⟨a',?_⟩
  rw[List.foldl_cons,<-p]
  simp[Yg,hz,hp]
theorem uO (v:Int):∀(xs:List Str) (d:SI),(xs.foldl (λd n=>putS d n v) d).length<=d.length+xs.length
 | [],d=>by simp
 |x::xs,d=>by
  have h1:=uO v xs (putS d x v)
  have h2:=jG x v d
  simp only[List.foldl_cons,List.length_cons]
  omega
theorem Ve (X0:Option En):∀(rows:List #[17]) (d:SI) (a b c:Option En),(∀r∈rows,r.2.length<=100)->d.length+100 * rows.length<=1000000->∃a' b' c':Option En,
  forD (.tup [2,3]) uI (rows.map rnD) [X0,some (.dct none (kv d)),a,b,c]=some (.next [X0,some (.dct none (kv (endsS d rows))),a',b',c'])
 | [],d,a,b,c,_,_=>⟨a,b,c,by simp[endsS]⟩
 |r::rows,d,a,b,c,h,hl=>by
  simp only[List.length_cons] at hl
  have hr:=h r List.mem_cons_self
  obtain⟨c1,p1⟩:=Ks X0 (some (.val (.lst (r.2.map D.str)))) r.1 r.2 d c #[1]
  have h2:=uO r.1 r.2 d
  obtain⟨a',b',c',p⟩:=Ve X0 rows (r.2.foldl (λd n=>putS d n r.1) d) (some (.val (.int r.1))) (some (.val (.lst (r.2.map D.str)))) c1 (λu hu=>h u (List.mem_cons_of_mem _ hu)) #[1]
  refine⟨a',b',c',?_⟩
  rw[show endsS d (r::rows)=endsS (r.2.foldl (λd n=>putS d n r.1) d) rows from rfl,<-p]
  simp[uI,rnD,asgD,z7,p1]
theorem zav {rows:List #[17]}(h:∀r∈rows,r.2.length<=100)(hl:rows.length<=5000):jH [.val (.lst (rows.map rnD))]=some (.dct none (kv (endsS [] rows))):=by
 obtain⟨a',b',c',p⟩:=Ve (some (.val (.lst (rows.map rnD)))) rows [] none none none h #[18]
 simp[kv] at p
 simp[jH,mir,stE,kR,Zg,p]
 rfl
theorem K3:∀(rs:List HM.Row),(∀r∈rs,Good r)->total rs<=100 * rs.length
 | [],_=>by simp[total]
 |r::rs,h=>by
  have h1:=(h r (by simp)).1.2
  have ih:=K3 rs λq hq=>h q (by simp[hq])
  simp only[total,List.length_cons]
  omega
theorem Fit.at {rs:List HM.Row}{rest:Int}(F:Fit rs rest)(x:Int):atR rest (krows rest rs) x=atR rest rs x:=JO (Qk rest x) rs F.pos
def zcR (rs:List HM.Row)(x:Int):Nat:=(total rs - x).toNat
def zcW (rs:List HM.Row)(f L x:Int):Nat:=(total rs - x).toNat+(L+1 - max x f).toNat
theorem Fit.early {rs:List HM.Row}{rest x:Int}(F:Fit rs rest)(h:atR rest rs x<=0):x < total rs:=by
 by_cases c:x < total rs
 ·exact c
 ·have:=QE (rest:=rest) rs x #[1] F.pos
  have:=F.lo
  omega
theorem Fit.hok {rs:List HM.Row}{rest:Int}(F:Fit rs rest):HOk rest (krows rest rs) (zcR rs):=by
 refine⟨u7 rest rs F.pos,F.lo,λx hx h=>?_,λx=>by unfold zcR;omega⟩
 rw[F.at] at h
 have:=F.early h
 unfold zcR
 omega
theorem Fit.hokW {rs:List HM.Row}{rest f L:Int}(F:Fit rs rest)(hf:f<=L)(hb:bareR f L (krows rest rs) 0=none):HOk rest (lessR rest f L (krows rest rs)) (zcW rs f L):=by
 have hp:=u7 rest rs F.pos
 refine⟨zf3 hp F.lo hb,F.lo,λx hx h=>?_,λx=>by unfold zcW;omega⟩
 rw[VU hp F.lo hf hb hx,F.at] at h
 unfold zcW
 by_cases c:f<=x/\x<=L
 ·omega
 ·rw[if_neg c] at h
  have:=F.early (x:=x) #[1]
  omega
theorem Fit.tot {rs:List HM.Row}{rest:Int}(F:Fit rs rest):total rs<=1600:=by
 have h2:=K3 rs F.good
 have h3:=F.len
 omega
theorem Z9 (ns:List Int)(k:Nat):xo [.val (.scr ns),.val (.int k)]=some (.val (.int (ns.getD k 0))):=by
 by_cases h:k < ns.length
 ·have e:atI ns (k:Int)=some ns[k]:=wm k (List.getElem?_eq_getElem h)
  simp[xo,mir,stE,qu,qB,h,e]
 ·simp[xo,mir,stE,qu,qB,h]
theorem zbv (a:Int)(k:Int):∃z,qj [.val (.int a),.val (.int k)]=some (.val (.int z)):=by
 have h1:∀x:Int,-LIM < x % 2147483647:=λx=>by unfold LIM;omega
 have h1':∀x:Int,x % 2147483647 < LIM:=λx=>by unfold LIM;omega
 have h2:∀x:Int,-LIM < x % 2147483629:=λx=>by unfold LIM;omega
 have h2':∀x:Int,x % 2147483629 < LIM:=λx=>by unfold LIM;omega
 have l1:-LIM < 69621:=by decide
 have l2:69621 < LIM:=by decide
 have l3:-LIM < 16807:=by decide
 have l4:16807 < LIM:=by decide
 simp[qj,mir,stE,ub,ZW,yh,VS,h1,h2,h1',h2',l1,l2,l3,l4]
def Rng:List Int->List Int->Prop
 | [],[]=>True
 |b::bs,v::vs=>(0<=v/\v < b)/\Rng bs vs
 |_,_=>False
theorem Rng.len:∀ {bs vs:List Int},Rng bs vs->vs.length=bs.length
 | [],[],_=>rfl
 |b::bs,v::vs,h=>by simp[Rng.len h.2]
 | [],_::_,h=>h.elim
 |_::_,[],h=>h.elim
theorem YZ (ns:List Int)(at0:Nat)(X2:Option En):∀(bs:List Int) (k:Nat) (c:Int) (k0 b0:Option En) (vs:List Int),(∀b∈bs,0 < b/\b < 1073741824)->vs.length+bs.length<=1000->∃(us:List Int) (c':Int) (k' b':Option En),Rng bs us /\
  forD (.tup [5,6]) kJ (enumD k (bs.map D.int)) [some (.val (.scr ns)),some (.val (.int (at0:Int))),X2,some (.val (.int c)),some (.acc (vs.map D.int)),k0,b0]
   = some (.next [some (.val (.scr ns)),some (.val (.int (at0:Int))),X2,some (.val (.int c')),some (.acc ((vs++us).map D.int)),k',b'])
 | [],k,c,k0,b0,vs,_,_=>⟨[],c,k0,b0,trivial,by simp[enumD]⟩
 |b::bs,k,c,k0,b0,vs,hb,hl=>by
  simp only[List.length_cons] at hl
  have hb1:=hb b List.mem_cons_self
  obtain⟨z,hz⟩:=zbv c (k:Int)
  have e0:=Z9 ns 0
  have hs:(0:Int)<=(at0:Int) % 8:=by omega
  have ht':vs.length<=TOP:=by simp[TOP];omega
  have ih:=λ(v:Int) (c2:Int)=>YZ ns at0 X2 bs (k+1) c2 (some (.val (.int (k:Int)))) (some (.val (.int b))) (vs++[v]) (λd hd=>hb d (List.mem_cons_of_mem _ hd)) #[18]
  by_cases q:Builtin.bitAnd (ns.getD 0 0 / 2 ^ ((at0:Int) % 8).toNat) 1=0
  ·obtain⟨us,c',k',b',p1,p3⟩:=ih (c % b) (c / b)
   refine⟨(c % b)::us,c',k',b',⟨⟨Int.emod_nonneg _ #[1],Int.emod_lt_of_pos _ hb1.1⟩,p1⟩,?_⟩
   rw[show vs++(c % b)::us=(vs++[c % b])++us by simp,<-p3]
   simp at e0 q
   simp[enumD,asgD,z7,kJ,e0,yh,Km hs,q,yh hb1.1,wE hb1.1 hb1.2,ht']
  ·obtain⟨us,c',k',b',p1,p3⟩:=ih (z / 8 % b) c
   refine⟨(z / 8 % b)::us,c',k',b',⟨⟨Int.emod_nonneg _ #[1],Int.emod_lt_of_pos _ hb1.1⟩,p1⟩,?_⟩
   rw[show vs++(z / 8 % b)::us=(vs++[z / 8 % b])++us by simp,<-p3]
   simp at e0 q hz
   simp[enumD,asgD,z7,kJ,e0,yh,Km hs,q,yh hb1.1,wE,ht',hz]
theorem wX (ns:List Int)(at0:Nat)(bs:List Int)(hb:∀b∈bs,0 < b/\b < 1073741824)(hl:bs.length<=900):∃us:List Int,Rng bs us/\yq [.val (.scr ns),.val (.int at0),.val (.lst (bs.map D.int))]=some (.acc (us.map D.int)):=by
 obtain⟨us,c',k',b',p1,p3⟩:=YZ ns at0 (some (.val (.lst (bs.map D.int)))) bs 0 (ns.getD at0 0) none none [] hb #[18]
 refine⟨us,p1,?_⟩
 have e0:=Z9 ns at0
 generalize hB:bs.map D.int=BS at *
 simp only[yq,mir,stE,qU,Y3]
 simp at p3
 simp[e0,p3]
theorem zM {n:Nat}(h:n<=1000):n<=TOP:=Nat.le_trans h #[7]
theorem zfw {l:List Nat}{k:Int}(h1:0<=k)(h2:k<=l.length):Txt.slice (mk l) (some k) none=mk (l.drop k.toNat):=by
 rw[slice_from_eq (b:=((mk l).length:Int)) h1 (by rw[w9];exact h2) rfl,w9]
 have e:(mk l).cps.toList=l:=by simp[mk]
 rw[e,List.take_of_length_le (by rw[List.length_drop];omega)]
 rfl
def wloop:List Nat->List Nat->Int->List Nat×Int
 | [],l,z=>(l,z)
 |j::js,l,z=>wloop js (l++[sg (z % (if j=0 then 26 else 36))]) (z / 36)
theorem i36a:fItem (.lst [.int 36,.int 26]) (.int 1)=some (.int 26):=rfl
theorem i36b:fItem (.lst [.int 36,.int 26]) (.int 0)=some (.int 36):=rfl
theorem W4 (X0 X1 X3 X4:Option En):∀(js l:List Nat) (z:Int) (b7:Option En),l.length+js.length<=100->∃b7':Option En,
  forD (.name 7) uA (js.map λ(j:Nat)=>D.int (0+(j:Int))) [X0,X1,some (.val (.str SIGNS)),X3,X4,some (.val (.int z)),some (.val (.str (mk l))),b7]
   = some (.next [X0,X1,some (.val (.str SIGNS)),X3,X4,some (.val (.int (wloop js l z).2)),some (.val (.str (mk (wloop js l z).1))),b7'])
 | [],l,z,b7,_=>⟨b7,by simp[wloop]⟩
 |j::js,l,z,b7,hl=>by
  simp only[List.length_cons] at hl
  obtain⟨b7',p⟩:=W4 X0 X1 X3 X4 js (l++[sg (z % (if j=0 then 26 else 36))]) (z / 36) (some (.val (.int (0+(j:Int))))) #[18]
  refine⟨b7',?_⟩
  rw[show wloop (j::js) l z=wloop js (l++[sg (z % (if j=0 then 26 else 36))]) (z / 36) from rfl,<-p]
  have t1:l.length+1<=TOP:=zM #[1]
  by_cases h:j=0
  ·subst h
   have i1:=Zp (a:=z % 26) #[1] #[1]
   simp[uA,yh,wE,t2,i36a,i1,w9,ko,t1]
  ·have h':¬((j:Int)=0):=by omega
   have i1:=Zp (a:=z % 36) #[1] #[1]
   simp[uA,yh,wE,h,h',t2,i36b,i1,w9,ko,t1]
theorem Jm:∀(js l:List Nat) (z:Int),(wloop js l z).1.length=l.length+js.length
 | [],l,z=>by simp[wloop]
 |j::js,l,z=>by rw[wloop,Jm];simp;omega
theorem Va:∀(js l:List Nat) (z:Int),(∀d∈l,d∈S36)->∀d∈(wloop js l z).1,d∈S36
 | [],l,z,h=>h
 |j::js,l,z,h=>Va js _ _ λd hd=>by
  rcases List.mem_append.mp hd with q | q
  ·exact h d q
  ·rw[List.mem_singleton.mp q]
   split
   ·exact KQ #[1] #[1]
   ·exact KQ #[1] #[1]
theorem JF:∀(js l:List Nat) (z:Int) (c:Nat),l.head?=some c->(wloop js l z).1.head?=some c
 | [],l,z,c,h=>h
 |j::js,l,z,c,h=>JF js _ _ c (by cases l with | nil=>cases h | cons a r=>simpa using h)
def word (c:Int):List Nat:=(wloop (List.range (c % 8).toNat) [] (c / 72)).1
def wleft (c:Int):Int:=(wloop (List.range (c % 8).toNat) [] (c / 72)).2
def wat (c:Int):Nat:=(c / 8 % (c % 8+1)).toNat
def nmK (c:Int)(k:Nat):List Nat:=(word c).take (wat c)++(sg ((wleft c+k) % 26)::(word c).drop (wat c))
theorem Zn (c:Int):(word c).length=(c % 8).toNat:=by unfold word;rw[Jm];simp
theorem WS (c:Int):wat c<=(word c).length:=by
 rw[Zn];unfold wat
 have h1:0<=c % 8:=by omega
 have h2:=Int.emod_lt_of_pos (c / 8) (show 0 < c % 8+1 by omega)
 have h3:=Int.emod_nonneg (c / 8) (show c % 8+1≠0 by omega)
 omega
theorem U0 (c:Int)(k:Nat):NameOk (mk (nmK c k)):=by
 have hl:=Zn c
 have hm:∀d∈word c,d∈S36:=Va _ _ _ (by simp)
 have hw:=WS c
 have s1:sg ((wleft c+k) % 26)∈S36.take 26:=Kr #[1] #[1]
 have all:∀d∈nmK c k,d∈S36:=λd hd=>by
  unfold nmK at hd
  rcases List.mem_append.mp hd with q | q
  ·exact hm d (List.mem_of_mem_take q)
  ·rcases List.mem_cons.mp q with rfl | q
   ·exact List.mem_of_mem_take s1
   ·exact hm d (List.mem_of_mem_drop q)
 have len:(nmK c k).length=(word c).length+1:=by
  unfold nmK
  rw[List.length_append,List.length_cons,List.length_take,List.length_drop]
  omega
 have hd:∃x,(nmK c k).head?=some x/\x∈S36.take 26:=by
  unfold nmK
  cases hw0:wat c with
  |zero=>exact⟨_,by simp,s1⟩
  |succ n=>
   have hne:0 < (c % 8).toNat:=by rw[hw0] at hw;omega
   obtain⟨m,hm2⟩:∃m,(c % 8).toNat=m+1:=⟨_,(Nat.succ_pred_eq_of_pos hne).symm⟩
   have e:(word c).head?=some (sg (c / 72 % 26)):=by
    unfold word
    rw[hm2,List.range_succ_eq_map]
    show (wloop _ ([]++[sg (c / 72 % (if (0:Nat)=0 then 26 else 36))]) _).1.head?=_
    exact JF _ _ _ _ (by simp)
   refine⟨_,?_,Kr (a:=c / 72 % 26) #[1] #[1]⟩
   cases q:word c with
   |nil=>rw[q] at e;cases e
   |cons a r=>rw[q] at e;simp at e;simp[e]
 obtain⟨x,hx,hx2⟩:=hd
 cases q:nmK c k with
 |nil=>rw[q] at hx;cases hx
 |cons a r=>
  rw[q] at hx all len
  have hax:a=x:=Option.some.inj hx
  rw[<-hax] at hx2
  exact⟨a,r,rfl,hx2,λd hd=>all d (List.mem_cons_of_mem _ hd),by simp at len;omega⟩
theorem zdo {c:Int}{j k:Nat}(hj:j < 26)(hk:k < 26)(e:nmK c j=nmK c k):j=k:=by
 unfold nmK at e
 have e1:=List.append_cancel_left e
 have e2:sg ((wleft c+j) % 26)=sg ((wleft c+k) % 26):=(List.cons.inj e1).1
 have e3:=zdp #[1] #[1] #[1] #[1] e2
 omega
theorem Ul (c:Int)(k:Nat):jC [.val (.int c),.val (.int k)]=some (.val (.str (mk (nmK c k)))):=by
 have hw:=WS c
 have hl:=Zn c
 obtain⟨b7',p⟩:=W4 (some (.val (.int c))) (some (.val (.int k))) (some (.val (.int (c % 8)))) (some (.val (.int (c / 8 % (c % 8+1))))) (List.range (c % 8).toNat) [] (c / 72) none #[18]
 have en:((c % 8).toNat:Int)=c % 8:=by omega
 have hB:-BIG<=c % 8/\c % 8<=BIG:=by unfold BIG;omega
 have h3:=Int.emod_nonneg (c / 8) (show c % 8+1≠0 by omega)
 have h9:(0:Int) < c % 8+1:=by omega
 have s1:=zgx (l:=word c) (k:=c / 8 % (c % 8+1)) h3 (by unfold wat at hw;omega)
 have s2:=zfw (l:=word c) (k:=c / 8 % (c % 8+1)) h3 (by unfold wat at hw;omega)
 have i1:=Zp (a:=(wleft c+k) % 26) #[1] #[1]
 have mk0:mk []=("" : Str):=by decide +kernel
 rw[mk0] at p
 rw[show (wloop (List.range (c % 8).toNat) [] (c / 72)).1=word c from rfl,show (wloop (List.range (c % 8).toNat) [] (c / 72)).2=wleft c from rfl] at p
 have t1:(word c).length<=TOP:=zM #[1]
 have t2:min (wat c) (word c).length+1<=TOP:=zM #[1]
 have t3:min (wat c) (word c).length+1+((word c).length - wat c)<=TOP:=zM #[1]
 have r1:=kH 0 (c % 8).toNat
 unfold SIGNS at p i1
 simp only[jC,mir,stE,uc,uX]
 simp at p
 simp[yh,wE,yh h9,hB,r1,p,s1,s2,i1,w9,ko,t1]
 unfold wat at t2 t3
 simp[nmK,wat,w9,ko,t2,t3]
theorem Y9 (xs:List Int){n:Nat}(h:xs.length * n<=1000)(hn:n<=1000):fRep (.lst (xs.map D.int)) (.int (n:Int))=some ((List.replicate n xs).flatten.map D.int):=by
 have h3:∀k:Nat,(List.replicate k (xs.map D.int)).flatten=(List.replicate k xs).flatten.map D.int:=λk=>by
  induction k with
  |zero=>rfl
  |succ k ih=>rw[List.replicate_succ,List.replicate_succ,List.flatten_cons,List.flatten_cons,List.map_append,ih]
 have h1:xs.length * n<=TOP:=zM h
 rw[Gu,if_pos ⟨by omega,by simpa using h1⟩,Int.toNat_natCast,h3]
theorem W7:∀(n:Nat) (us:List Int),Rng (List.replicate n [6,36]).flatten us->us.length=2 * n/\∀k,k < n->∃a b,us[2 * k]?=some a/\us[2 * k+1]?=some b/\0<=a/\a < 6/\0<=b
 |0,[],_=>⟨rfl,λk h=>by omega⟩
 |0,_::_,h=>h.elim
 |n+1,[],h=>by simp[List.replicate_succ,Rng] at h
 |n+1,[_],h=>by simp[List.replicate_succ,Rng] at h
 |n+1,a::b::us,h=>by
  simp only[List.replicate_succ,List.flatten_cons,List.cons_append,List.nil_append,Rng] at h
  obtain⟨ha,hb,h⟩:=h
  obtain⟨h1,h2⟩:=W7 n us h
  refine⟨by simp[h1];omega,λk hk=>?_⟩
  match k,hk with
  |0,_=>exact⟨a,b,rfl,rfl,ha.1,ha.2,hb.1⟩
  |k+1,hk=>
   obtain⟨x,y,e1,e2,e3⟩:=h2 k #[1]
   refine⟨x,y,?_,?_,e3⟩
   ·rw[show 2 * (k+1)=2 * k+1+1 from by omega];simpa using e1
   ·rw[show 2 * (k+1)+1=2 * k+1+1+1 from by omega];simpa using e2
theorem pick4 (a b c d:Int){w:Int}(h1:0<=w)(h2:w < 4):∃v,atI [D.int a,D.int b,D.int c,D.int d] w=some (.int v)/\(v=a∨v=b∨v=c∨v=d):=by
 have:w=0∨w=1∨w=2∨w=3:=by omega
 rcases this with rfl | rfl | rfl | rfl
 ·exact⟨a,rfl,.inl rfl⟩
 ·exact⟨b,rfl,.inr (.inl rfl)⟩
 ·exact⟨c,rfl,.inr (.inr (.inl rfl))⟩
 ·exact⟨d,rfl,.inr (.inr (.inr rfl))⟩
def RowOk (r:HM.Row):Prop:=(1<=r.1/\r.1<=6)/\0<=r.2/\r.2<=8
theorem VT (us:List Int){w:Int}(w1:0<=w)(w2:w < 4)(n:Nat)(hus:∀k,k < n->∃a b,us[2 * k]?=some a/\us[2 * k+1]?=some b/\0<=a/\a < 6/\0<=b)(X0 X1 X2 X3 X8 X9 X10 X11 X12:Option En) :
  ∀(ks:List Nat) (acc:List HM.Row) (x7:Option En),(∀k∈ks,k < n)->acc.length+ks.length<=900->∃(rs:List HM.Row) (x7':Option En),(∀r∈rs,RowOk r)/\rs.length=ks.length /\
   forD (.name 7) YN (ks.map λ(k:Nat)=>D.int (0+(k:Int))) [X0,X1,X2,X3,some (.val (.int w)),some (.val (.lst (us.map D.int))),some (.acc (acc.map rowD)),x7,X8,X9,X10,X11,X12]
    = some (.next [X0,X1,X2,X3,some (.val (.int w)),some (.val (.lst (us.map D.int))),some (.acc ((acc++rs).map rowD)),x7',X8,X9,X10,X11,X12])
 | [],acc,x7,_,_=>⟨[],x7,by simp,rfl,by simp⟩
 |k::ks,acc,x7,hk,hl=>by
  simp only[List.length_cons] at hl
  obtain⟨a,b,e1,e2,a1,a2,b1⟩:=hus k (hk k (by simp))
  obtain⟨v,ev,hv⟩:=pick4 9 4 3 2 w1 w2
  have hv0:0 < v:=by omega
  obtain⟨rs,x7',r1,r2,r3⟩:=VT us w1 w2 n hus X0 X1 X2 X3 X8 X9 X10 X11 X12 ks (acc++[(1+a,b % v)]) (some (.val (.int (k:Int)))) (λj hj=>hk j (by simp[hj])) #[18]
  refine⟨(1+a,b % v)::rs,x7',?_,by simp[r2],?_⟩
  ·intro r hr
   rcases List.mem_cons.mp hr with rfl | hr
   ·have h1:=Int.emod_nonneg b (show v≠0 by omega)
    have h2:=Int.emod_lt_of_pos b hv0
    exact⟨⟨by omega,by omega⟩,h1,by show b % v<=8;omega⟩
   ·exact r1 r hr
  ·have i1:atI (us.map D.int) (2 * (k:Int))=some (.int a):=by
    have:=atI_nat (xs:=us.map D.int) (i:=2 * k) (v:=.int a) (by simp[e1])
    simpa using this
   have i2:atI (us.map D.int) (2 * (k:Int)+1)=some (.int b):=by
    have:=atI_nat (xs:=us.map D.int) (i:=2 * k+1) (v:=.int b) (by simp[e2])
    simpa using this
   have hT:acc.length < TOP:=by simp[TOP];omega
   have hT':acc.length<=TOP:=by omega
   have t4:4<=TOP:=by decide
   rw[List.append_assoc,List.singleton_append] at r3
   rw[<-r3]
   have m2:fMul (.int 2) (.int (k:Int))=some (.int (2 * (k:Int))):=VS #[7] #[7]
   simp[YN,asgD,m2,i1,i2,ev,yh,hv0,t2,t4,hT,hT',rowD]
def qL (c v:Int):Nat->List Int->SI
 |_,[]=>[]
 |k,u::us=>(mk (nmK c k),1+u % v)::qL c v (k+1) us
theorem Za (c v:Int):∀(k:Nat) (us:List Int),(qL c v k us).length=us.length
 |_,[]=>rfl
 |k,u::us=>by simp[qL,Za c v (k+1) us]
theorem YU (c v:Int):∀(k:Nat) (us:List Int) (x:Str),x∈nms (qL c v k us)->∃j,k<=j/\j < k+us.length/\x=mk (nmK c j)
 |k,[],x,h=>by simp[qL,nms] at h
 |k,u::us,x,h=>by
  rcases List.mem_cons.mp (show x∈mk (nmK c k)::nms (qL c v (k+1) us) from h) with rfl | h
  ·exact⟨k,Nat.le_refl _,by simp,rfl⟩
  ·obtain⟨j,h1,h2,h3⟩:=YU c v (k+1) us x h
   exact⟨j,by omega,by simp;omega,h3⟩
theorem Vu (c v:Int):∀(k:Nat) (us:List Int),k+us.length<=26->(nms (qL c v k us)).Nodup
 |k,[],_=>by simp[qL,nms]
 |k,u::us,h=>by
  simp only[List.length_cons] at h
  show (mk (nmK c k)::nms (qL c v (k+1) us)).Nodup
  refine List.nodup_cons.mpr ⟨λhm=>?_,Vu c v (k+1) us #[1]⟩
  obtain⟨j,h1,h2,h3⟩:=YU c v (k+1) us _ hm
  have:=zdo #[1] #[1] (zf7 h3)
  omega
theorem K5 (c v:Int)(h0:0 < v)(h1:v<=20):∀(k:Nat) (us:List Int),∀t∈qL c v k us,1<=t.2/\t.2<=20
 |_,[],t,h=>by simp[qL] at h
 |k,u::us,t,h=>by
  rcases List.mem_cons.mp (show t∈(mk (nmK c k),1+u % v)::qL c v (k+1) us from h) with rfl | h
  ·have h1:=Int.emod_nonneg u (show v≠0 by omega)
   have h2:=Int.emod_lt_of_pos u h0
   exact⟨by show 1<=1+u % v;omega,by show 1+u % v<=20;omega⟩
  ·exact K5 c v h0 h1 (k+1) us t h
structure Q5 (q:SI):Prop where
 nam:∀t∈q,NameOk t.1
 nd:(nms q).Nodup
 len:q.length<=8
 le:∀t∈q,1<=t.2/\t.2<=20
theorem Q5.ok {q:SI}(h:Q5 q):∀t∈q,Ok t.1:=λt ht=>(h.nam t ht).ok
theorem Q5.pos {q:SI}(h:Q5 q):PosQ q:=λt ht=>(h.le t ht).1
theorem Ke (ns:List Int){w:Int}(w1:0<=w)(w2:w < 4){v:Int}(ev:atI [D.int 20,D.int 5,D.int 3,D.int 5] w=some (.int v))(hv:0 < v)(X1 X2 X3 X4 X5 X6 X8 X10:Option En) :
  ∀(us:List Int) (k:Nat) (acc:SI) (x7 x12:Option En),acc.length+us.length<=900->∃(x7' x12':Option En),
   forD (.tup [7,12]) uJ (enumD k (us.map D.int)) [some (.val (.scr ns)),X1,X2,X3,X4,X5,X6,x7,X8,some (.val (.int w)),X10,some (.acc (acc.map tkD)),x12]
    = some (.next [some (.val (.scr ns)),X1,X2,X3,X4,X5,X6,x7',X8,some (.val (.int w)),X10,some (.acc ((acc++qL (ns.getD 4 0) v k us).map tkD)),x12'])
 | [],k,acc,x7,x12,_=>⟨x7,x12,by simp[enumD,qL]⟩
 |u::us,k,acc,x7,x12,hl=>by
  simp only[List.length_cons] at hl
  obtain⟨x7',x12',p⟩:=Ke ns w1 w2 ev hv X1 X2 X3 X4 X5 X6 X8 X10 us (k+1) (acc++[(mk (nmK (ns.getD 4 0) k),1+u % v)]) (some (.val (.int (k:Int)))) (some (.val (.int u))) #[18]
  refine⟨x7',x12',?_⟩
  have e0:=Z9 ns 4
  have e1:=Ul (ns.getD 4 0) k
  have hT:acc.length<=TOP:=zM #[1]
  have t4:4<=TOP:=by decide
  simp only[List.map_cons,enumD,qL]
  rw[List.append_assoc,List.singleton_append] at p
  rw[<-p]
  simp at e0 e1
  simp[asgD,z7,uJ,e0,e1,ev,yh,hv,tkD,t2,t4,hT]
theorem rng4 {a b c d:Int}{us:List Int}(h:Rng [a,b,c,d] us):∃x y z w,us=[x,y,z,w]/\(0<=x/\x < a)/\(0<=y/\y < b)/\(0<=z/\z < c)/\0<=w/\w < d:=by
 match us,h with
 | [x,y,z,w],h=>exact⟨x,y,z,w,rfl,h.1,h.2.1,h.2.2.1,h.2.2.2.1⟩
 | [],h=>exact h.elim
 | [_],h=>exact h.2.elim
 | [_,_],h=>exact h.2.2.elim
 | [_,_,_],h=>exact h.2.2.2.elim
 |_::_::_::_::_::_,h=>exact h.2.2.2.2.elim
theorem rng2 {a b:Int}{us:List Int}(h:Rng [a,b] us):∃x y,us=[x,y]/\(0<=x/\x < a)/\0<=y/\y < b:=by
 match us,h with
 | [x,y],h=>exact⟨x,y,rfl,h.1,h.2.1⟩
 | [],h=>exact h.elim
 | [_],h=>exact h.2.elim
 |_::_::_::_,h=>exact h.2.2.elim
theorem uV:∀(k:Nat) (xs:List D),(enumD k xs).length=xs.length
 |_,[]=>rfl
 |k,x::xs=>by simp[enumD,uV (k+1) xs]
theorem G2 (ns:List Int):∃(q:SI) (rs:List HM.Row) (rest b0:Int),Q5 q/\(∀r∈rs,RowOk r)/\rs.length<=5/\(1<=rest/\rest<=3)/\(0<=b0/\b0<=20) /\
  qw [.val (.scr ns)]=some (.val (.tup [.lst #[6],.lst (rs.map rowD),.int rest,.int b0])):=by
 obtain⟨us1,r1,p1⟩:=wX ns 1 [6,21,3,4] (by simp) (by simp)
 obtain⟨many,b0,rest,w,rfl,hm,hb,hr,hw⟩:=rng4 r1
 obtain⟨m,rfl⟩:∃m:Nat,many=(m:Int):=⟨many.toNat,by omega⟩
 obtain⟨us2,r2,p2⟩:=wX ns 2 (List.replicate m [6,36]).flatten (λb hb=>by
  obtain⟨l,hl,hb⟩:=List.mem_flatten.mp hb
  rw[List.eq_of_mem_replicate hl] at hb
  simp at hb
  omega) #[18]
 obtain⟨_,g2'⟩:=W7 m us2 r2
 obtain⟨us3,r3,p3⟩:=wX ns 3 [9,4] (by simp) (by simp)
 obtain⟨tk,lw,rfl,ht,hw2⟩:=rng2 r3
 obtain⟨t,rfl⟩:∃t:Nat,tk=(t:Int):=⟨tk.toNat,by omega⟩
 obtain⟨us4,r4,p4⟩:=wX ns 3 ([9,4]++(List.replicate t [20]).flatten) (λb hb=>by
  rcases List.mem_append.mp hb with hb | hb
  ·simp at hb;omega
  ·obtain⟨l,hl,hb⟩:=List.mem_flatten.mp hb
   rw[List.eq_of_mem_replicate hl] at hb
   simp at hb
   omega) #[18]
 have l4:us4.length=t+2:=by rw[r4.len];simp
 obtain⟨v,ev,hv⟩:=pick4 20 5 3 5 hw2.1 hw2.2
 obtain⟨rs,x7,q1,q2,q3⟩:=VT us2 hw.1 hw.2 m g2' (some (.val (.scr ns))) (some (.val (.int m))) (some (.val (.int b0))) (some (.val (.int rest))) none none none none none (List.range m) [] none (λk hk=>List.mem_range.mp hk) #[18]
 obtain⟨x7',x12',q4⟩:=Ke ns hw2.1 hw2.2 ev #[1] (some (.val (.int m))) (some (.val (.int b0))) (some (.val (.int rest))) (some (.val (.int w))) (some (.val (.lst (us2.map D.int)))) (some (.acc (rs.map rowD))) (some (.val (.int t))) (some (.val (.lst ((us4.drop 2).map D.int)))) (us4.drop 2) 0 [] x7 none #[18]
 refine⟨qL (ns.getD 4 0) v 0 (us4.drop 2),rs,1+rest,b0,⟨λt ht=>?_,Vu _ _ _ _ #[18],by rw[Za];simp;omega,K5 _ _ #[1] #[1] _ _⟩,q1,by rw[q2];simp;omega,⟨by omega,by omega⟩,⟨by omega,by omega⟩,?_⟩
 ·obtain⟨j,_,_,e⟩:=YU _ v 0 _ t.1 (List.mem_map_of_mem ht)
  rw[e];exact U0 _ j
 ·have er1:=Y9 [6,36] (n:=m) #[18] #[1]
  have er2:=Y9 [20] (n:=t) #[18] #[1]
  have hcut:cutD (us4.map D.int) (some 2) none=(us4.drop 2).map D.int:=by rw[qV #[1],List.map_drop];rfl
  have hT3:t+2<=TOP:=zM #[1]
  have hT5:us4.length<=TOP:=zM #[1]
  have hT6:(us4.drop 2).length<=TOP:=zM #[18]
  have hlen:((List.replicate t [(20:Int)]).flatten).length=t:=by simp
  rw[List.map_append] at p4
  have hTe:(enumD 0 ((us4.drop 2).map D.int)).length<=TOP:=by rw[uV];simpa using hT6
  generalize hR1:(List.replicate m [(6:Int),36]).flatten.map D.int=R1 at *
  generalize hR2:(List.replicate t [(20:Int)]).flatten.map D.int=R2 at *
  have hl2:R2.length=t:=by rw[<-hR2];simpa using hlen
  have hz:m<=TOP:=zM #[1]
  have hcat:fCatS (.lst [.int 9,.int 4]) (.lst R2)=some ([.int 9,.int 4]++R2):=by rw[Gm];simp[hl2];omega
  have hrng:rngD 0 m=(List.range m).map λ(k:Nat)=>D.int (0+(k:Int)):=kH 0 m
  have hbig:-BIG<=(m:Int)/\(m:Int)<=BIG:=by simp[BIG];omega
  have t4:4<=TOP:=by decide
  have hlr:rs.length<=TOP:=zM (by rw[q2];simp;omega)
  have hlq:(qL (ns.getD 4 0) v 0 (us4.drop 2)).length<=TOP:=by rw[Za];exact hT6
  generalize hqq:qL (ns.getD 4 0) v 0 (us4.drop 2)=Q at *
  generalize hD:(us4.drop 2).map D.int=DD at *
  generalize hU4:us4.map D.int=U4 at *
  generalize hU2:us2.map D.int=U2 at *
  simp only[List.map_cons,List.map_nil,Int.natCast_one,Int.cast_ofNat_Int,List.nil_append,List.map_append] at p1 p2 p3 p4 er1 er2 q3 q4
  simp only[qw,mir,stE,qJ,ZK]
  simp only[Int.zero_add] at q3 hrng
  have t1:1<=TOP:=by decide
  have hl3:2+R2.length<=TOP:=by rw[hl2];omega
  simp only[List.cons_append,List.nil_append] at p4
  simp[p1,p2,p3,p4,er1,er2,t1,t2,t4,hbig,hrng,q3,q4,hl3,hcut,hTe,frzE]
theorem JE:∀(ks:List HM.Row) (s:Int),compD (.tup [0,1,2]) tYes YB [none,none,none] ((spans s ks).map spanD)=some (ks.map rowD)
 | [],s=>by simp[spans]
 |r::rs,s=>by
  have ih:=JE rs (s+r.1)
  have e:s+r.1 - s=r.1:=by omega
  simp only[spans,List.map_cons,qN]
  rw[ih]
  simp[YB,spanD,rowD,t2,e]
section
variable (C:Str->Addr){rest f L ch:Int}{ks:List HM.Row}
theorem zbu (hl:ks.length<=500):jA C [.val #[25]]=some (.acc (ks.map rowD)):=by
 have e:=JE ks 0
 have ht:(spans 0 ks).length<=TOP:=by rw[kS];simp[TOP];omega
 simp[jA,mir,stE,JK,ZU,hoursD,xW,e,ht]
theorem Vv:∀(l m:List HM.Row) (s:Int),spans s (l++m)=spans s l++spans (s+total l) m
 | [],m,s=>by simp[spans,total]
 |r::rs,m,s=>by
  have:s+r.1+total rs=s+(r.1+total rs):=by omega
  simp[spans,Vv rs m,total,this]
theorem zc5:jw C [.val #[25]]=some (.val (.int (total ks))):=by
 rcases List.eq_nil_or_concat ks with rfl | ⟨pre,q,rfl⟩
 ·simp[jw,mir,stE,YR,ki,hoursD,xW,spans,total]
 ·rw[List.concat_eq_append]
  have e:(spans 0 (pre++[q])).map spanD=(spans 0 pre).map spanD++[.tup [.int (total pre),.int (total pre+q.1),.int q.2]]:=by
   rw[Vv];simp[spans,spanD]
  have e2:total (pre++[q])=total pre+q.1:=by rw[Yl];simp[total]
  simp[jw,mir,stE,YR,ki,hoursD,xW,e,e2]
def optD:Option Int->D
 |none=>.non
 |some i=>.int i
theorem Kj (o:D)(f L:Int):∀(ks:List HM.Row) (s:Int) (a b c d:Option En),
  thenB (forD (.tup [3,4,5]) vS ((spans s ks).map spanD) [some (.val o),some (.val (.int f)),some (.val (.int L)),a,b,c,d]) (sRet (gc .non))=some (.ret (.val (optD (bareR f L ks s))))
 | [],s,a,b,c,d=>by simp[spans,bareR,optD]
 |r::rs,s,a,b,c,d=>by
  have ih:=Kj o f L rs (s+r.1) (some (.val (.int s))) (some (.val (.int (s+r.1)))) (some (.val (.int r.2))) (some (.val (.int (max s f))))
  by_cases h:r.2=0/\max s f < s+r.1/\max s f<=L
  ·obtain⟨h1,h2,h3⟩:=h
   simp only[bareR]
   rw[if_pos ⟨h1,h2,h3⟩]
   simp[spans,spanD,vS,h1,h2,h3,optD]
  ·simp only[bareR]
   rw[if_neg h,<-ih]
   by_cases h1:r.2=0
   ·by_cases h2:max s f < s+r.1
    ·have h3:¬(max s f<=L):=λz=>h ⟨h1,h2,z⟩
     simp[spans,spanD,vS,h1,h2,h3]
    ·simp[spans,spanD,vS,h1,h2]
   ·simp[spans,spanD,vS,h1]
theorem Zx:xY C [.val #[25],.val (.int f),.val (.int L)]=some (.val (optD (bareR f L ks 0))):=by
 have e:=Kj #[25] f L ks 0 none none none none
 simp only[xY,mir,stE,kG,ZM]
 simp only[Uh,zcs]
 simp[hoursD] at e
 simp[hoursD,xW,e]
theorem JN (X0:Option En)(f L ch:Int):∀(ks:List HM.Row) (s:Int) (acc:List HM.Row) (a b c d e:Option En),acc.length+3 * ks.length<=1000->∃a' b' c' d' e':Option En,
  forD (.tup [5,6,7]) Z8 ((spans s ks).map spanD) [X0,some (.val (.int f)),some (.val (.int L)),some (.val (.int ch)),some (.acc (acc.map rowD)),a,b,c,d,e]
   = some (.next [X0,some (.val (.int f)),some (.val (.int L)),some (.val (.int ch)),some (.acc ((acc++cutW f L ch s ks).map rowD)),a',b',c',d',e'])
 | [],s,acc,a,b,c,d,e,_=>⟨a,b,c,d,e,by simp[spans,cutW]⟩
 |r::rs,s,acc,a,b,c,d,e,hl=>by
  simp only[List.length_cons] at hl
  obtain⟨a',b',c',d',e',p⟩:=JN X0 f L ch rs (s+r.1) (acc++pcs f L ch s r) (some (.val (.int s))) (some (.val (.int (s+r.1)))) (some (.val (.int r.2))) (some (.val (.int (max 0 (min (s+r.1) f - s))))) (some (.val (.int (max 0 (s+r.1 - max s (L+1)))))) (by simp[pcs];omega)
  refine⟨a',b',c',d',e',?_⟩
  have h1:acc.length<=TOP:=by simp[TOP];omega
  have h2:acc.length+1<=TOP:=by simp[TOP];omega
  have h3:acc.length+1+1<=TOP:=by simp[TOP];omega
  rw[cutW,<-List.append_assoc,<-p]
  simp[spans,spanD,asgD,z7,Z8,pcs,rowD,h1,h2,h3,t2]
theorem zhd {ks:List HM.Row}(hl:ks.length<=100):qy [.val (.lst ((spans 0 ks).map spanD)),.val (.int f),.val (.int L),.val (.int ch)]=some (.acc ((cutW f L ch 0 ks).map rowD)):=by
 obtain⟨a',b',c',d',e',p⟩:=JN (some (.val (.lst ((spans 0 ks).map spanD)))) f L ch ks 0 [] none none none none none #[18]
 simp at p
 simp[qy,mir,stE,u8,Zf,p]
theorem zdx {a b d:D}:putZ "spans" d FS [a,b]=(FS,[a,d]):=by rfl
theorem UJ {r:Int}{x:List D}:lookZ "rows" FS [D.int r,D.lst x]=none:=ju #[13] #[13]
theorem zcz {r:Int}{x:List D}:lookZ "end" FS [D.int r,D.lst x]=none:=ju #[13] #[13]
theorem Zj {r:Int}{x:List D}:lookZ "free" FS [D.int r,D.lst x]=none:=ju #[13] #[13]
theorem R3 {r:Int}{x:List D}:lookZ "changed" FS [D.int r,D.lst x]=none:=ju #[13] #[13]
theorem Rk {r:Int}{x:List D}:lookZ "less" FS [D.int r,D.lst x]=none:=ju #[13] #[13]
theorem zc7 (hp:Pos ks)(hl:ks.length<=90)(h1:1<=rest)(h2:rest<=8)(hf:f<=L) :
  qi C [.val #[25],.val (.int f),.val (.int L),.val (.int (-1))]=some (.val (hoursD #[5] rest (lessR rest f L ks))):=by
 have ei:=Jp C (rs:=[]) (rest:=rest) (λr hr=>by cases hr) (by simp) h1 h2 (λr hr=>by cases hr)
 have e0:(spans 0 (krows rest [])).map spanD=[]:=rfl
 rw[e0] at ei
 simp only[List.map_nil] at ei
 have e1:=zbu C (rest:=rest) (ks:=ks) #[1]
 have e2:=zc5 C (rest:=rest) (ks:=ks)
 obtain⟨n,hn⟩:∃n,max 0 (L+1 - total ks)=n:=⟨_,rfl⟩
 have e3:=zca (rs:=ks++[(n,rest)]) #[18]
 have e4:=zhd (f:=f) (L:=L) (ch:=-1) (ks:=ks++[(n,rest)]) #[18]
 have hnn:=Zc f L (-1) (ks++[(n,rest)]) 0 (by rw[<-hn];exact Zs hp) hf
 have hc:=Yj f L (-1) 0 (ks++[(n,rest)])
 simp only[List.length_append,List.length_singleton] at hc
 have e5:=GY (rs:=cutW f L (-1) 0 (ks++[(n,rest)])) (rest:=rest) (.inr rfl) hnn #[1]
 have hk:(lessR rest f L ks).length<=500:=Nat.le_trans R7 #[1]
 have hless:lessR rest f L ks=krows rest (fil (cutW f L (-1) 0 (ks++[(n,rest)]))):=by rw[<-hn];rfl
 have e6:=KC (rs:=lessR rest f L ks) hk
 rw[hless] at e6 ⊢
 have hT:ks.length<=TOP:=by simp[TOP];omega
 have hmap:(ks++[(n,rest)]).map rowD=ks.map rowD++[.tup [.int n,.int rest]]:=by simp[rowD]
 rw[hmap] at e3
 generalize krows rest (fil (cutW f L (-1) 0 (ks++[(n,rest)])))=ks' at *
 generalize (cutW f L (-1) 0 (ks++[(n,rest)])).map rowD=CR at *
 generalize (spans 0 (ks++[(n,rest)])).map spanD=SR at *
 simp only[hoursD] at e1 e2
 have t0:0<=TOP:=by decide
 have hFS:FS.length < 900:=by decide
 simp[qi,mir,stE,qG,Ym,hoursD,Kd,UJ,zcz,ei,e1,e2,e3,e4,e5,e6,hf,hn,hT,t0,t2,zdx,hFS]
theorem Up (hp:Pos ks)(hl:ks.length<=90)(h1:1<=rest)(h2:rest<=8)(hf:f<=L)(hb:bareR f L ks 0=none) :
  jZ C [.val #[25],.val (.int f),.val (.int L)]=some (.val (hoursD #[5] rest (lessR rest f L ks))):=by
 have e1:=zc7 C hp hl h1 h2 hf
 have e2:=Zx C (rest:=rest) (f:=f) (L:=L) (ks:=ks)
 rw[hb] at e2
 generalize lessR rest f L ks=ks' at *
 simp only[hoursD,optD] at e1 e2
 simp[jZ,mir,stE,u6,ZQ,hoursD,Zj,R3,e1,e2]
end
theorem Jz {α:Type}{f:Int->Int}:∀ {rows rows':List (Int×List α)} {x:Int} {q:List (Tk α)},Run f x q rows->Run f x q rows'->rows=rows'
 |_,_,_,_,.nil x,h=>by
  cases h with
  |nil=>rfl
  |cons h _=>exact (h rfl).elim
 |_,_,_,_,.cons h1 r,h=>by
  cases h with
  |nil=>exact (h1 rfl).elim
  |cons h2 r'=>rw[Jz r r']
@[simp]theorem zkb {ρ:EnvD}{b:SD}:thenB (some (.brk ρ)) b=some (.brk ρ):=rfl
@[simp]theorem zkd {ρ:EnvD}{b:SD}:loopB (some (.brk ρ)) b=some (.next ρ):=rfl
def sideW (rs:List HM.Row)(rest f L:Int):D:=.tup [.lst (rs.map rowD),.int rest,.int f,.int L]
theorem Qx (X0 X1 X2 X3 X4 X5:Option En)(rest:Int):∀(rs:List HM.Row) (x:Int) (a b:Option En),∃(x' a' b':Option En),
  forD (.tup [8,9]) kq (rs.map rowD) [X0,X1,X2,X3,X4,X5,some (.val (.int rest)),some (.val (.int x)),a,b]=some (.next [X0,X1,X2,X3,X4,X5,some (.val (.int (atR rest rs x))),x',a',b'])
 | [],x,a,b=>⟨some (.val (.int x)),a,b,by simp[atR]⟩
 |r::rs,x,a,b=>by
  by_cases h:x < r.1
  ·exact⟨some (.val (.int x)),some (.val (.int r.1)),some (.val (.int r.2)),by simp[atR,h,kq,rowD,asgD,z7]⟩
  ·obtain⟨x',a',b',p⟩:=Qx X0 X1 X2 X3 X4 X5 rest rs (x - r.1) (some (.val (.int r.1))) (some (.val (.int r.2)))
   refine⟨x',a',b',?_⟩
   rw[atR,if_neg h,<-p]
   simp[h,kq,rowD,asgD,z7]
theorem Kz {rs:List HM.Row}{rest x f L:Int}:zY [.val (sideW rs rest f L),.val (.int x)]=some (.val (.int (atR rest rs x - (if f<=x/\x<=L then 1 else 0)))):=by
 obtain⟨x',a',b',p⟩:=Qx (some (.val (sideW rs rest f L))) (some (.val (.int x))) (some (.val (.lst (rs.map rowD)))) (some (.val (.int rest))) (some (.val (.int f))) (some (.val (.int L))) rest rs x none none
 simp only[sideW] at p
 by_cases h:f<=x
 ·by_cases h2:x<=L
  ·simp[zY,mir,stE,jx,jI,sideW,asgD,z7,p,h,h2]
  ·simp[zY,mir,stE,jx,jI,sideW,asgD,z7,p,h,h2]
 ·simp[zY,mir,stE,jx,jI,sideW,asgD,z7,p,h]
theorem zgu (q:List (Str×Int)):compD (.tup [0,1]) (gb' (g2 fGt (gr 1) #[15])) WK [none,none] #[6]=some (((q.filter λt=>decide (1 < t.2)).map λt=>(t.1,t.2 - 1)).map tkD):=km q
theorem VJ {rest:Int}{rs:List HM.Row}{zc:Int->Nat}{side:D}(F:HOk rest rs zc)(hsd:∀x,0<=x->zY [.val side,.val (.int x)]=some (.val (.int (atR rest rs x))))(X0 X2:Option En):∀(n:Nat) (q:SI) (acc:List #[17]) (x:Int) (a:Option En),PosQ q->(∀t∈q,Ok t.1)->q.length<=100->0<=x->sumQ q+zc x<=n->acc.length+n<=5000 ->
  ∃(out:List #[17]) (v3 v5 v6:Option En),Run (atR rest rs) x q out /\
   whileD (gb' (g2 (fEq true) (gr 3) (gFz (gLst gNil)))) Ys (n+1) [X0,some (.val side),X2,some (.val (.lst #[6])),some (.acc (acc.map rnD)),some (.val (.int x)),a]
    = some (.next [X0,some (.val side),X2,v3,some (.acc ((acc++out).map rnD)),v5,v6])
 |n,q,acc,x,a,hp,ho,hl,h0,hs,ha=>by
  have hne:=zar (neg:=true) ho
  by_cases hq:q=[]
  ·subst hq
   refine⟨[],some (.val (.lst [])),some (.val (.int x)),a,.nil _,?_⟩
   rw[kO]
   ·simp
   ·simp at hne
    simp[hne]
  ·have hn:=F.nn x
   have e1:=hsd x h0
   have hsum:=VA (m:=(atR rest rs x).toNat) hp
   have hql:1<=q.length:=by cases q with | nil=>exact (hq rfl).elim | cons=>simp
   have hdec:sumQ (beh (atR rest rs x).toNat q)+zc (x+1)+1<=n:=by
    by_cases hx:atR rest rs x<=0
    ·have:=F.dec x h0 hx
     omega
    ·have:=F.mono x
     omega
   have hb:=Jn (m:=(atR rest rs x).toNat) (q:=q)
   match n,hs,ha,hdec with
   |n+1,hs,ha,hdec=>
    obtain⟨out,v3,v5,v6,o1,o2⟩:=VJ F hsd X0 X2 n (beh (atR rest rs x).toNat q) (acc++[(x,srv (atR rest rs x).toNat q)]) (x+1) (some (.val (.int (atR rest rs x)))) (VQ hp) (KD Ok ho) #[1] #[1] #[1] #[18]
    refine⟨(x,srv (atR rest rs x).toNat q)::out,v3,v5,v6,.cons hq o1,?_⟩
    generalize hat:atR rest rs x=m at *
    have c1:cutD #[6] none (some m)=(q.take m.toNat).map tkD:=by rw[uF hn,List.map_take]
    have c2:cutD #[6] (some m) none=(q.drop m.toNat).map tkD:=by rw[qV hn,List.map_drop]
    have e3:=zgu (q.take m.toNat)
    have e4:=Yy (e:=ZA) (λa b=>by simp[ZA]) (q.take m.toNat)
    have lA:(q.take m.toNat).length<=q.length:=by rw[List.length_take];omega
    have lB:(q.drop m.toNat).length<=q.length:=by rw[List.length_drop];omega
    have hf:=List.length_filter_le (λt:Str×Int=>decide (1 < t.2)) (q.take m.toNat)
    generalize hA:q.take m.toNat=A at *
    generalize hB:q.drop m.toNat=Bq at *
    have tA:A.length<=TOP:=zM #[1]
    have tB:Bq.length<=TOP:=zM #[1]
    have tc:(A.filter λt=>decide (1 < t.2)).length+Bq.length<=TOP:=by simp only[TOP];omega
    have tf:(A.filter λt=>decide (1 < t.2)).length<=TOP:=by omega
    have hT:acc.length<=TOP:=by simp[TOP];omega
    rw[jE (ρ2:=[X0,some (.val side),X2,some (.val (.lst ((beh m.toNat q).map tkD))),some (.acc ((acc++[(x,srv m.toNat q)]).map rnD)),some (.val (.int (x+1))),some (.val (.int m))]) (by
     simp at hne;simp[hne,hq]) (by
     simp at e3 e4
     simp[Ys,e1,c1,c2,e3,e4,tA,tB,tc,tf,hT,t2,beh,srv,hA,hB,rnD]),o2,List.append_assoc,List.singleton_append]
structure Wd (q:SI)(rest:Int)(ks:List HM.Row)(side:D)(zc:Int->Nat)(b0:Int):Prop where
 q5:Q5 q
 hok:HOk rest ks zc
 sd:∀x,0<=x->zY [.val side,.val (.int x)]=some (.val (.int (atR rest ks x)))
 z:zc b0<=2000
 b0:0<=b0
section
variable {q:SI}{ks:List HM.Row}{rest b0:Int}{side:D}{zc:Int->Nat}
theorem Wd.sum (W:Wd q rest ks side zc b0):sumQ q<=160:=zdr (n:=8) (b:=20) q W.q5.len λt ht=>(W.q5.le t ht).2
theorem zgp (W:Wd q rest ks side zc b0):∃out:List #[17],Run (atR rest ks) b0 q out /\
  xq [.val (.lst #[6]),.val side,.val (.int b0)]=some (.acc (out.map rnD)):=by
 have hs:=W.sum
 have hl:=W.q5.len
 have hb:=W.b0
 have hz:=W.z
 obtain⟨out,v3,v5,v6,o1,o2⟩:=VJ W.hok W.sd (some (.val (.lst #[6]))) (some (.val (.int b0))) (sumQ q+zc b0) q [] b0 none W.q5.pos W.q5.ok #[1] hb #[1] #[18]
 refine⟨out,o1,?_⟩
 have o3:=Yq o2
 have hT:q.length<=TOP:=zM #[1]
 simp at o3
 simp[xq,mir,stE,vg,Yu,o3,hT]
end
theorem KH (X0 X3:Option En)(v:Int):∀(xs:List Str) (d:SI) (a:Option En),d.length+xs.length<=1000000->∃a':Option En,
  forD (.name 4) uR (xs.map D.str) [X0,some (.dct none (kv d)),some (.val (.int v)),X3,a]=some (.next [X0,some (.dct none (kv (xs.foldl (λd n=>putS d n v) d))),some (.val (.int v)),X3,a'])
 | [],d,a,_=>⟨a,by simp⟩
 |x::xs,d,a,hl=>by
  simp only[List.length_cons] at hl
  have hz:(kv d).length < sizeLine:=by rw[YG,sizeLine_eq];omega
  have hp:=kZ x v d
  have h2:=jG x v d
  obtain⟨a',p⟩:=KH X0 X3 v xs (putS d x v) (some (.val (.str x))) #[1]
  refine⟨a',?_⟩
  rw[List.foldl_cons,<-p]
  simp[uR,hz,hp]
theorem WD (X0:Option En):∀(rows:List #[17]) (d:SI) (a b c:Option En),(∀r∈rows,r.2.length<=100)->d.length+100 * rows.length<=1000000->∃a' b' c':Option En,
  forD (.tup [2,3]) Yz (rows.map rnD) [X0,some (.dct none (kv d)),a,b,c]=some (.next [X0,some (.dct none (kv (endsS d rows))),a',b',c'])
 | [],d,a,b,c,_,_=>⟨a,b,c,by simp[endsS]⟩
 |r::rows,d,a,b,c,h,hl=>by
  simp only[List.length_cons] at hl
  have hr:=h r List.mem_cons_self
  obtain⟨c1,p1⟩:=KH X0 (some (.val (.lst (r.2.map D.str)))) r.1 r.2 d c #[1]
  have h2:=uO r.1 r.2 d
  obtain⟨a',b',c',p⟩:=WD X0 rows (r.2.foldl (λd n=>putS d n r.1) d) (some (.val (.int r.1))) (some (.val (.lst (r.2.map D.str)))) c1 (λu hu=>h u (List.mem_cons_of_mem _ hu)) #[1]
  refine⟨a',b',c',?_⟩
  rw[show endsS d (r::rows)=endsS (r.2.foldl (λd n=>putS d n r.1) d) rows from rfl,<-p]
  simp[Yz,rnD,asgD,z7,p1]
theorem JP {rows:List #[17]}(h:∀r∈rows,r.2.length<=100)(hl:rows.length<=5000):wA [.val (.lst (rows.map rnD))]=some (.dct none (kv (endsS [] rows))):=by
 obtain⟨a',b',c',p⟩:=WD (some (.val (.lst (rows.map rnD)))) rows [] none none none h #[18]
 simp[kv] at p
 simp[wA,mir,stE,kB,Y1,p]
 rfl
def late (E P:SI):SI->Option (Str×Int×Int)
 | []=>none
 |t::q=>match lookS P t.1,lookS E t.1 with
  |some p,some e=>if p < e then some (t.1,p,e) else late E P q
  |_,_=>late E P q
theorem kz {E P:SI}:∀ {q:SI} {n:Str} {p e:Int},late E P q=some (n,p,e)->lookS P n=some p/\lookS E n=some e/\n∈nms q
 | [],n,p,e,h=>by simp[late] at h
 |t::q,n,p,e,h=>by
  unfold late at h
  split at h
  ·rename_i p' e' h1 h2
   split at h
   ·cases h
    exact⟨h1,h2,by simp[nms]⟩
   ·obtain⟨a,b,c⟩:=kz h
    exact⟨a,b,by simp only[nms,List.map_cons,List.mem_cons];exact .inr c⟩
  ·obtain⟨a,b,c⟩:=kz h
   exact⟨a,b,by simp only[nms,List.map_cons,List.mem_cons];exact .inr c⟩
def dueD (o:Option (Str×Int×Int))(run:List #[17]):D:=match o with
 |none=>.tup [.str "granted"]
 |some (n,p,e)=>.tup [.str "late",.str n,.int p,.int e,.lst (run.map rnD)]
theorem QQ (X0 X1 X2:Option En)(E P:SI)(run:List #[17]):∀(q:SI) (a b:Option En),(∀t∈q,∃e,lookS E t.1=some e) ->
  match late E P q with
  |none=>∃a' b',forD (.tup [6,7]) xC #[6] [X0,X1,X2,some (.dbo (kv P)),some (.val (.lst (run.map rnD))),some (.dct none (kv E)),a,b]=some (.next [X0,X1,X2,some (.dbo (kv P)),some (.val (.lst (run.map rnD))),some (.dct none (kv E)),a',b'])
  |some o=>forD (.tup [6,7]) xC #[6] [X0,X1,X2,some (.dbo (kv P)),some (.val (.lst (run.map rnD))),some (.dct none (kv E)),a,b]=some (.ret (.val (dueD (some o) run)))
 | [],a,b,_=>⟨a,b,by simp⟩
 |t::q,a,b,h=>by
  obtain⟨e,he⟩:=h t (by simp)
  have hE:=xG t.1 E
  have hP:=xG t.1 P
  rw[he] at hE
  have ih:=QQ X0 X1 X2 E P run q (some (.val (.str t.1))) (some (.val (.int t.2))) λu hu=>h u (by simp[hu])
  have t5:5<=TOP:=by decide
  unfold late
  cases hp:lookS P t.1 with
  |none=>
   rw[hp] at hP
   simp only[Option.map_none] at hP
   have e1:xC [X0,X1,X2,some (.dbo (kv P)),some (.val (.lst (run.map rnD))),some (.dct none (kv E)),some (.val (.str t.1)),some (.val (.int t.2))]=some (.next [X0,X1,X2,some (.dbo (kv P)),some (.val (.lst (run.map rnD))),some (.dct none (kv E)),some (.val (.str t.1)),some (.val (.int t.2))]):=by
    simp[xC,hP]
   simp only[List.map_cons,xX,tkD,asgD,z7]
   simp[e1]
   exact ih
  |some p=>
   rw[hp] at hP
   simp only[Option.map_some] at hP hE
   rw[he]
   by_cases hlt:p < e
   ·simp only[hlt,if_true]
    simp[tkD,asgD,z7,xC,hP,hE,hlt,dueD,t5]
   ·simp only[hlt,if_false]
    have e1:xC [X0,X1,X2,some (.dbo (kv P)),some (.val (.lst (run.map rnD))),some (.dct none (kv E)),some (.val (.str t.1)),some (.val (.int t.2))]=some (.next [X0,X1,X2,some (.dbo (kv P)),some (.val (.lst (run.map rnD))),some (.dct none (kv E)),some (.val (.str t.1)),some (.val (.int t.2))]):=by
     simp[xC,hP,hE,hlt]
    simp only[List.map_cons,xX,tkD,asgD,z7]
    simp[e1]
    exact ih
def FG:List Str:=["queue","hours","begin"]
def FN:List Str:=["queue","hours","begin","turn"]
def FL:List Str:=["queue","hours","begin","name","promised","turn","run"]
section
variable {a b c d e f g:D}
theorem YF:putZ "queue" a [] []=((["queue"]:List Str),([a]:List D)):=by rfl
theorem uE:putZ "hours" b ["queue"] [a]=((["queue","hours"]:List Str),([a,b]:List D)):=by rfl
theorem YK:putZ "begin" c ["queue","hours"] [a,b]=((["queue","hours","begin"]:List Str),([a,b,c]:List D)):=by rfl
theorem zaq:putZ "name" d ["queue","hours","begin"] [a,b,c]=((["queue","hours","begin","name"]:List Str),([a,b,c,d]:List D)):=by rfl
theorem zfq:putZ "promised" e ["queue","hours","begin","name"] [a,b,c,d]=((["queue","hours","begin","name","promised"]:List Str),([a,b,c,d,e]:List D)):=by rfl
theorem zb6:putZ "turn" f ["queue","hours","begin","name","promised"] [a,b,c,d,e]=((["queue","hours","begin","name","promised","turn"]:List Str),([a,b,c,d,e,f]:List D)):=by rfl
theorem zb2:putZ "run" g ["queue","hours","begin","name","promised","turn"] [a,b,c,d,e,f]=((["queue","hours","begin","name","promised","turn","run"]:List Str),([a,b,c,d,e,f,g]:List D)):=by rfl
theorem Kv:lookZ "queue" FG [a,b,c]=some a:=by rfl
theorem Y0:lookZ "hours" FG [a,b,c]=some b:=by rfl
theorem WY:lookZ "begin" FG [a,b,c]=some c:=by rfl
theorem QF:lookZ "granted" FG [a,b,c]=none:=by rfl
theorem zdl:lookZ "word" FG [a,b,c]=none:=by rfl
theorem Jo:lookZ "told" FG [a,b,c]=none:=by rfl
theorem GP:lookZ "holds" FG [a,b,c]=none:=by rfl
theorem WC:lookZ "queue" FL [a,b,c,d,e,f,g]=some a:=by rfl
theorem Ya:lookZ "hours" FL [a,b,c,d,e,f,g]=some b:=by rfl
theorem W5:lookZ "begin" FL [a,b,c,d,e,f,g]=some c:=by rfl
theorem zge:lookZ "name" FL [a,b,c,d,e,f,g]=some d:=by rfl
theorem G0:lookZ "promised" FL [a,b,c,d,e,f,g]=some e:=by rfl
theorem RN:lookZ "turn" FL [a,b,c,d,e,f,g]=some f:=by rfl
theorem G4:lookZ "run" FL [a,b,c,d,e,f,g]=some g:=by rfl
theorem K2:lookZ "granted" FL [a,b,c,d,e,f,g]=none:=by rfl
theorem zfj:lookZ "word" FL [a,b,c,d,e,f,g]=none:=by rfl
theorem Zb:lookZ "told" FL [a,b,c,d,e,f,g]=none:=by rfl
theorem zfg:lookZ "holds" FL [a,b,c,d,e,f,g]=none:=by rfl
theorem R4:putZ "turn" d ["queue","hours","begin"] [a,b,c]=((["queue","hours","begin","turn"]:List Str),([a,b,c,d]:List D)):=by rfl
theorem zl2:lookZ "queue" FN [a,b,c,d]=some a:=by rfl
theorem QZ:lookZ "hours" FN [a,b,c,d]=some b:=by rfl
theorem zdh:lookZ "begin" FN [a,b,c,d]=some c:=by rfl
theorem Qj:lookZ "turn" FN [a,b,c,d]=some d:=by rfl
theorem zfl:lookZ "granted" FN [a,b,c,d]=none:=by rfl
theorem UM:lookZ "word" FN [a,b,c,d]=none:=by rfl
theorem UW:lookZ "told" FN [a,b,c,d]=none:=by rfl
theorem R5:lookZ "holds" FN [a,b,c,d]=none:=by rfl
end
@[simp]theorem yd {α:Type}{g1 g2:EnvD->Option α}{ρ:EnvD}:yAlt g1 g2 ρ=match g1 ρ with | some q=>some q | none=>g2 ρ:=rfl
def grD (C:Str->Addr)(q:SI)(h:D)(b0:Int):D:=.obj #[16] FG [.lst #[6],h,.int b0]
def laD (C:Str->Addr)(q:SI)(h:D)(b0:Int)(n:Str)(p e:Int)(run:List #[17]):D:=.obj (C "Late") FL [.lst #[6],h,.int b0,.str n,.int p,.int e,.lst (run.map rnD)]
section
variable {x:En}{q:SI}{h:D}{b0:Int}
theorem zch (C:Str->Addr)(hx:Lq x #[6])(hl:q.length<=900):wt C [x,.val h,.val (.int b0)]=some (FG,[.lst #[6],h,.int b0]):=by
 have hT:q.length<=TOP:=zM #[1]
 simp only[wt,mirI,stE,vv,qK]
 rcases hx with rfl | rfl<;>simp[hT,YF,uE,YK,outI,outJ,FG]
theorem zg9 (C:Str->Addr)(a dx:Addr)(hx:Lq x #[6])(hl:q.length<=900):xr C a dx [x,.val h,.val (.int b0)]=some (FG,[.lst #[6],h,.int b0]):=by
 have hT:q.length<=TOP:=zM #[1]
 simp only[xr,mirI,stE,Vy,Zt]
 rcases hx with rfl | rfl<;>simp[hT,YF,uE,YK,outI,outJ,FG]
def rowT (r:Int×List Str):OT:=.tup [.frz (.int r.1),.lst (lfs (r.2.map D.str))]
theorem WI:∀(run:List #[17]),(∀r∈run,r.2.length<=100)->compT (.tup [0,1]) tYes (gTupT (tCn (gLf (gv 0)) (tCn (gLs (gB fList (gCons' (gr 1) gNil))) tNl))) [none,none] (run.map rnD)=some (run.map rowT)
 | [],_=>by simp
 |r::run,h=>by
  have ih:=WI run λu hu=>h u (by simp[hu])
  have hT:r.2.length<=TOP:=zM (by have:=h r (by simp);omega)
  simp only[List.map_cons,Gg,ih]
  simp[asgD,z7,rnD,rowT,hT,t2]
theorem J6:∀(run:List #[17]),erases (run.map rowT)=run.map rnD
 | []=>by simp
 |r::run=>by simp[J6 run,rowT,rnD]
theorem VW {run:List #[17]}(h:∀r∈run,r.2.length<=100)(hl:run.length<=5000):wf [.val (.lst (run.map rnD))]=some (.tre (.lst (run.map rowT))):=by
 have e:=WI run h
 have hT:run.length<=TOP:=by simp[TOP];omega
 simp[wf,mir,stE,WJ,Yr,gCompT,e,hT]
theorem Ku (run:List #[17]):(OT.lst (run.map rowT)).erase=.lst (run.map rnD):=by simp[OT.erase,J6]
theorem U5 (C:Str->Addr)(hx:Lq x #[6])(hl:q.length<=900){n:Str}{p e:Int}{run:List #[17]}(hr:∀r∈run,r.2.length<=100)(hrl:run.length<=5000) :
  wb C [x,.val h,.val (.int b0),.val (.str n),.val (.int p),.val (.int e),.val (.lst (run.map rnD))]=some (FL,[.lst #[6],h,.int b0,.str n,.int p,.int e,.lst (run.map rnD)]):=by
 have ej:=zg9 C 0 0 (h:=h) (b0:=b0) hx hl
 have eo:=VW hr hrl
 have er:=Ku run
 simp only[wb,mirI,stE,qM,qY]
 rcases hx with rfl | rfl<;>simp[sBase,ej,eo,er,frzO,FG,zaq,zfq,zb6,zb2,outI,outJ,FL]
theorem Jj (C:Str->Addr):y6 C [.val (grD C q h b0)]=some (.tre (.tup [.frz (.str "granted")])):=by
 have t1:1<=TOP:=by decide
 simp[y6,mir,stE,Ua,ZC,grD,zdl,kQ,Ju,YM,t1]
def dueT (n:Str)(p e:Int)(run:List #[17]):OT:=.tup [.frz (.str "late"),.frz (.str n),.frz (.int p),.frz (.int e),.lst (run.map rowT)]
theorem Yb (C:Str->Addr){n:Str}{p e:Int}{run:List #[17]}(hr:∀r∈run,r.2.length<=100)(hrl:run.length<=5000):yw C [.val (laD C q h b0 n p e run)]=some (.tre (dueT n p e run)):=by
 have t5:5<=TOP:=by decide
 have eo:=VW hr hrl
 simp[yw,mir,stE,QR,Z5,laD,zfj,zge,G0,RN,G4,uy,Vc,ZG,t5,eo,treO,dueT]
theorem ZZ (n:Str)(p e:Int)(run:List #[17]):(dueT n p e run).erase=dueD (some (n,p,e)) run:=by
 simp[dueT,dueD,Ku]
def nrD (C:Str->Addr)(q:SI)(h:D)(b0 u:Int):D:=.obj #[12] FN [.lst #[6],h,.int b0,.int u]
theorem zg1 (C:Str->Addr)(a dx:Addr)(hx:Lq x #[6])(hl:q.length<=900):xE C a dx [x,.val h,.val (.int b0)]=some (FG,[.lst #[6],h,.int b0]):=by
 have hT:q.length<=TOP:=zM #[1]
 simp only[xE,mirI,stE,Wi,uH]
 rcases hx with rfl | rfl<;>simp[hT,YF,uE,YK,outI,outJ,FG]
theorem Rb (C:Str->Addr)(hx:Lq x #[6])(hl:q.length<=900){u:Int} :
  w6 C [x,.val h,.val (.int b0),.val (.int u)]=some (FN,[.lst #[6],h,.int b0,.int u]):=by
 have ej:=zg1 C 0 0 (h:=h) (b0:=b0) hx hl
 simp only[w6,mirI,stE,qR,ue]
 rcases hx with rfl | rfl<;>simp[sBase,ej,FG,R4,outI,outJ,FN]
theorem zhc (C:Str->Addr){u:Int}:yA C [.val (nrD C q h b0 u)]=some (.tre (.tup [.frz (.str "no counter"),.frz (.int u)])):=by
 have t2:2<=TOP:=by decide
 simp[yA,mir,stE,Qd,ZH,nrD,UM,Qj,uu,KT,ZT,t2]
theorem Um (C:Str->Addr){u:Int}:yF C [.val (nrD C q h b0 u)]=some (.val (.bl false)):=by simp[yF,mir,stE,JR,ZL]
theorem za5 (C:Str->Addr){u rest:Int}{ks:List HM.Row}(hp:Pos ks)(hu:b0<=u)(ha:atR rest ks u=0){y:En}:xf C [.val (nrD C q #[25] b0 u),y]=some (.val (.bl true)):=by
 have e1:=Yp C (rest:=rest) (x:=u) hp
 rw[ha] at e1
 simp only[hoursD] at e1
 simp[xf,mir,stE,xO,Yn,nrD,Qj,zdh,QZ,hoursD,kP,e1,hu]
end
theorem Vn (X0:Option En)(E P:SI):∀(q:SI) (a b:Option En),(∀t∈q,∃e,lookS E t.1=some e) ->
  match late E P q with
  |none=>∃a' b',forD (.tup [3,4]) xF #[6] [X0,some (.dbo (kv E)),some (.dbo (kv P)),a,b]=some (.next [X0,some (.dbo (kv E)),some (.dbo (kv P)),a',b'])
  |some o=>forD (.tup [3,4]) xF #[6] [X0,some (.dbo (kv E)),some (.dbo (kv P)),a,b]=some (.ret (.val (.str o.1)))
 | [],a,b,_=>⟨a,b,by simp⟩
 |t::q,a,b,h=>by
  obtain⟨e,he⟩:=h t (by simp)
  have hE:=xG t.1 E
  have hP:=xG t.1 P
  rw[he] at hE
  have ih:=Vn X0 E P q (some (.val (.str t.1))) (some (.val (.int t.2))) λu hu=>h u (by simp[hu])
  unfold late
  cases hp:lookS P t.1 with
  |none=>
   rw[hp] at hP
   simp only[Option.map_none] at hP
   have e1:xF [X0,some (.dbo (kv E)),some (.dbo (kv P)),some (.val (.str t.1)),some (.val (.int t.2))]=some (.next [X0,some (.dbo (kv E)),some (.dbo (kv P)),some (.val (.str t.1)),some (.val (.int t.2))]):=by
    simp[xF,hP]
   simp only[List.map_cons,xX,tkD,asgD,z7]
   simp[e1]
   exact ih
  |some p=>
   rw[hp] at hP
   simp only[Option.map_some] at hP hE
   rw[he]
   by_cases hlt:p < e
   ·simp only[hlt,if_true]
    simp[tkD,asgD,z7,xF,hP,hE,hlt]
   ·simp only[hlt,if_false]
    have e1:xF [X0,some (.dbo (kv E)),some (.dbo (kv P)),some (.val (.str t.1)),some (.val (.int t.2))]=some (.next [X0,some (.dbo (kv E)),some (.dbo (kv P)),some (.val (.str t.1)),some (.val (.int t.2))]):=by
     simp[xF,hP,hE,hlt]
    simp only[List.map_cons,xX,tkD,asgD,z7]
    simp[e1]
    exact ih
def nmO:Option (Str×Int×Int)->D
 |none=>.non
 |some o=>.str o.1
theorem zed {x:En}{q E P:SI}(hx:Lq x #[6])(h:∀t∈q,∃e,lookS E t.1=some e):jc [x,.dbo (kv E),.dbo (kv P)]=some (.val (nmO (late E P q))):=by
 have p:=Vn (some x) E P q none none h
 cases hl:late E P q with
 |none=>
  rw[hl] at p
  obtain⟨a',b',p⟩:=p
  rcases hx with rfl | rfl<;>simp[jc,mir,stE,jF,ux,p,nmO]
 |some o=>
  rw[hl] at p
  simp only at p
  rcases hx with rfl | rfl<;>simp[jc,mir,stE,jF,ux,p,nmO]
structure Rn (C:Str->Addr)(q:SI)(rest:Int)(ks:List HM.Row)(side:D)(b0:Int)(out:List #[17]):Prop where
 ok:∀r∈out,∀y∈r.2,Ok y
 w:∀r∈out,r.2.length<=100
 len:out.length<=5000
 run:Run (atR rest ks) b0 q out
 law:xq [.val (.lst #[6]),.val side,.val (.int b0)]=some (.acc (out.map rnD))
 prog:∀x,Lq x #[6]->wC C [x,.val #[25],.val (.int b0),.val .non]=some (.acc (out.map rnD))
 ends:∀t∈q,∃e,lookS (endsS [] out) t.1=some e
section
variable {C:Str->Addr}{q:SI}{ks:List HM.Row}{rest b0:Int}{side:D}{zc:Int->Nat}{out:List #[17]}{P:SI}
theorem Wd.rn (C:Str->Addr)(W:Wd q rest ks side zc b0):∃out,Rn C q rest ks side b0 out:=by
 have hs:=W.sum
 have hl:=W.q5.len
 obtain⟨o,r1,e1⟩:=zgp W
 have key:∀x,Lq x #[6]->(∀r∈o,(∀y∈r.2,Ok y)/\r.2.length<=100)/\o.length<=5000/\wC C [x,.val #[25],.val (.int b0),.val .non]=some (.acc (o.map rnD)):=λx hx=>by
  obtain⟨o',a1,a2,a3,a4⟩:=Ue C W.hok W.b0 W.z W.q5.pos W.q5.ok #[1] #[1] hx
  have:=Jz a2 r1
  subst this
  exact⟨a1,a3,a4⟩
 obtain⟨k1,k2,_⟩:=key _ (.inl rfl)
 refine⟨o,λr hr=>(k1 r hr).1,λr hr=>(k1 r hr).2,k2,r1,e1,λx hx=>(key x hx).2.2,λt ht=>?_⟩
 obtain⟨r,hr,hn⟩:=J2 r1 (v:=t.1) (List.mem_map_of_mem ht)
 obtain⟨L,h1,_⟩:=zc2 r1 hr hn []
 exact⟨L,h1⟩
theorem GT (W:Wd q rest ks side zc b0)(R:Rn C q rest ks side b0 out):ww [.val (.lst #[6]),.val side,.val (.int b0),.dbo (kv P)]=some (.val (dueD (late (endsS [] out) P q) out)):=by
 have e1:=R.law
 have e2:=JP R.w R.len
 have p:=QQ (some (.val (.lst #[6]))) (some (.val side)) (some (.val (.int b0))) (endsS [] out) P out q none none R.ends
 have t1:1<=TOP:=by decide
 generalize endsS [] out=E at *
 cases hl:late E P q with
 |none=>
  rw[hl] at p
  obtain⟨a',b',p⟩:=p
  simp[ww,mir,stE,jX,kC,e1,e2,p,dueD,t1]
 |some o=>
  rw[hl] at p
  simp only at p
  simp[ww,mir,stE,jX,kC,e1,e2,p]
def vD (C:Str->Addr)(q:SI)(h:D)(b0:Int)(run:List #[17]):Option (Str×Int×Int)->D
 |none=>grD C q h b0
 |some (n,p,e)=>laD C q h b0 n p e run
theorem ZR (W:Wd q rest ks side zc b0)(R:Rn C q rest ks side b0 out){x:En}(hx:Lq x #[6]) :
  yg C [x,.val #[25],.val (.int b0),.dbo (kv P)]=some (.val (vD C q #[25] b0 out (late (endsS [] out) P q))):=by
 have e1:=R.prog x hx
 have e2:=zav R.w R.len
 have e3:=zed (P:=P) hx R.ends
 have hl:=W.q5.len
 have e4:=zch (h:=hoursD #[5] rest ks) (b0:=b0) C hx #[1]
 generalize hE:endsS [] out=E at *
 cases ho:late E P q with
 |none=>
  rw[ho] at e3
  rcases hx with rfl | rfl<;>simp[yg,mir,stE,qr,kA,mN,e1,e2,e3,nmO,e4,vD,grD]
 |some o=>
  obtain⟨n,p,e⟩:=o
  rw[ho] at e3
  obtain⟨l1,l2,_⟩:=kz ho
  have k1:=xG n P
  have k2:=xG n E
  rw[l1] at k1
  rw[l2] at k2
  simp only[Option.map_some] at k1 k2
  have e5:=U5 (h:=hoursD #[5] rest ks) (b0:=b0) C hx #[1] (n:=n) (p:=p) (e:=e) R.w R.len
  have hnn:isNon (D.str n)=false:=rfl
  rcases hx with rfl | rfl<;>simp[yg,mir,stE,qr,kA,mN,e1,e2,e3,nmO,e5,vD,laD,k1,k2,hnn]
end
structure UC (C:Str->Addr):Prop where
 gl:C "Granted" ≠ C "Late"
 gn:C "Granted" ≠ C "NoRoom"
 ln:C "Late" ≠ C "NoRoom"
def OkO (o:Option (Str×Int×Int)):Prop:=∀n p e,o=some (n,p,e)->Ok n
theorem uC:Ok "late" := by decide +kernel
theorem vR:Ok "granted" := by decide +kernel
theorem Gw:¬(("late" : Str) = "granted"):=by decide +kernel
theorem zji:¬(("granted" : Str) = "late"):=by decide +kernel
section
variable {o o':Option (Str×Int×Int)}{run:List #[17]}
theorem Kp (h:OkO o)(hr:∀r∈run,∀y∈r.2,Ok y):Lay 4 (dueD o run):=by
 obtain⟨h1,h2⟩:=zcu hr
 cases o with
 |none=>
  refine⟨?_,?_⟩
  ·show (PyData.canLay0 (.str "granted")&&true)=true
   rw[show PyData.canLay0 (.str "granted")=true from vR];rfl
  ·show max 0 0+1<=4;omega
 |some o=>
  obtain⟨n,p,e⟩:=o
  have hn:=h n p e rfl
  refine⟨?_,?_⟩
  ·show (PyData.canLay0 (.str "late")&&(PyData.canLay0 (.str n)&&(PyData.canLay0 (.int p)&&(PyData.canLay0 (.int e)&&((toP (.lst (run.map rnD))).canLay0&&true)))))=true
   rw[show PyData.canLay0 (.str "late")=true from uC,show PyData.canLay0 (.str n)=true from hn,h1];rfl
  ·show max 0 (max 0 (max 0 (max 0 (max ((toP (.lst (run.map rnD))).depth) 0))))+1<=4;omega
theorem zgc:PyData.eqv (toP (dueD o run)) (toP (dueD o' run))=decide (o=o'):=by
 cases o with
 |none=>
  cases o' with
  |none=>
   show (PyData.eqv (.str "granted") (.str "granted")&&true)=_
   rw[xZ];simp
  |some o'=>
   obtain⟨n,p,e⟩:=o'
   show (PyData.eqv (.str "granted") (.str "late")&&false)=_
   simp
 |some o=>
  obtain⟨n,p,e⟩:=o
  cases o' with
  |none=>
   show (PyData.eqv (.str "late") (.str "granted")&&false)=_
   simp
  |some o'=>
   obtain⟨n',p',e'⟩:=o'
   show (PyData.eqv (.str "late") (.str "late")&&(PyData.eqv (.str n) (.str n')&&(PyData.eqv (.int p) (.int p')&&(PyData.eqv (.int e) (.int e')&&(PyData.eqv (toP (.lst (run.map rnD))) (toP (.lst (run.map rnD)))&&true)))))=_
   rw[xZ,xZ,wY,wY,zgv]
   by_cases h1:n=n'<;>by_cases h2:p=p'<;>by_cases h3:e=e'<;>simp[h1,h2,h3]
theorem Q3 {neg:Bool}(h:OkO o)(h':OkO o')(hr:∀r∈run,∀y∈r.2,Ok y):fEq neg (dueD o run) (dueD o' run)=some (.bl (if neg then !decide (o=o') else decide (o=o'))) :=
 j4 (Kp h hr) (Kp h' hr) #[7] #[7] zgc
end
section
variable {C:Str->Addr}{q:SI}{ks:List HM.Row}{rest b0:Int}{side:D}{zc:Int->Nat}{out:List #[17]}{P:SI}
theorem KZ (W:Wd q rest ks side zc b0){E P:SI}:OkO (late E P q):=λn p e h=>by
 obtain⟨_,_,hm⟩:=kz h
 obtain⟨t,ht,rfl⟩:=List.mem_map.mp hm
 exact W.q5.ok t ht
theorem Jc {h:D}:y3 C [.val (grD C q h b0)]=some (.val (.bl true)):=by simp[y3,mir,stE,KU,Z4]
theorem Wa {h:D}{n:Str}{p e:Int}:y7 C [.val (laD C q h b0 n p e out)]=some (.val (.bl false)):=by simp[y7,mir,stE,Qn,ZN]
theorem U3 (hC:UC C)(W:Wd q rest ks side zc b0)(R:Rn C q rest ks side b0 out):yN C [.val (grD C q #[25] b0),.dbo (kv P)]=some (.val (.bl (late (endsS [] out) P q).isNone)):=by
 have e1:=ZR (P:=P) W R (.inl rfl)
 have hC':=Ne.symm hC.gl
 generalize hoursD #[5] rest ks=h at *
 cases ho:late (endsS [] out) P q with
 |none=>
  rw[ho] at e1
  have e2:=Jc (C:=C) (q:=q) (h:=h) (b0:=b0)
  simp only[vD,grD] at e1 e2
  simp[yN,mir,stE,Zy,kg,grD,Kv,Y0,WY,e1,e2,QF]
 |some o=>
  obtain⟨n,p,e⟩:=o
  rw[ho] at e1
  have e2:=Wa (C:=C) (q:=q) (h:=h) (b0:=b0) (n:=n) (p:=p) (e:=e) (out:=out)
  simp only[vD,laD] at e1 e2
  simp[yN,mir,stE,Zy,kg,grD,Kv,Y0,WY,e1,e2,K2,hC']
theorem V5:(OT.tup [.frz (.str "granted")]).erase=dueD none out:=by simp[dueD]
theorem zg7 (hC:UC C)(W:Wd q rest ks side zc b0)(R:Rn C q rest ks side b0 out){n:Str}{p e:Int}(hn:Ok n):yG C [.val (laD C q #[25] b0 n p e out),.dbo (kv P)]=some (.val (.bl (decide (late (endsS [] out) P q=some (n,p,e))))):=by
 have e1:=ZR (P:=P) W R (.inl rfl)
 have hC':=Ne.symm hC.gl
 generalize hoursD #[5] rest ks=h at *
 have e3:=Yb (q:=q) (h:=h) (b0:=b0) (n:=n) (p:=p) (e:=e) C R.w R.len
 have r3:=ZZ n p e out
 have k:=Q3 (neg:=false) (o:=late (endsS [] out) P q) (o':=some (n,p,e)) (run:=out) (KZ W) (λn' p' e' hh=>by cases hh;exact hn) R.ok
 cases ho:late (endsS [] out) P q with
 |none=>
  rw[ho] at e1 k
  have e2:=Jj (q:=q) (h:=h) (b0:=b0) C
  have r2:=V5 (out:=out)
  simp only[vD,grD,laD] at e1 e2 e3
  simp only[dueD] at k r2 r3
  simp[yG,mir,stE,uM,qH,laD,WC,Ya,W5,e1,e2,e3,Jo,Zb,frzO,r3,k]
 |some o=>
  obtain⟨n',p',e'⟩:=o
  rw[ho] at e1 k
  have e2:=Yb (q:=q) (h:=h) (b0:=b0) (n:=n') (p:=p') (e:=e') C R.w R.len
  have r2:=ZZ n' p' e' out
  simp only[vD,laD] at e1 e2 e3
  simp only[dueD] at k r2 r3
  simp[yG,mir,stE,uM,qH,laD,WC,Ya,W5,e1,e2,e3,Zb,frzO,r2,r3,k,hC']
end
theorem wg {s b:SD}{ρ ρ':EnvD}{r:Option Fl}(h:s ρ=some (.next ρ'))(k:b ρ'=r):sSeq s b ρ=r:=by
 rw[<-k]
 show thenB (s ρ) b=_
 rw[h];rfl
theorem line9 {n:Nat}(h:n<=1000):n < sizeLine:=by rw[sizeLine_eq];omega
theorem JU (X0 X1 X2 X3 X4:Option En)(E:SI)(us:List Int):∀(ts:SI) (k:Nat) (P:SI) (a b c:Option En),(∀t∈ts,∃e,lookS E t.1=some e)->k+ts.length < us.length->(keysS P).Nodup->P.length+ts.length<=100 ->
  ∃(P':SI) (a' b' c':Option En),(keysS P').Nodup/\P'.length<=P.length+ts.length /\
   forD (.tup [8,9]) xQ (enumD k (ts.map tkD)) [X0,X1,X2,X3,X4,some (.dct none (kv E)),some (.val (.lst (us.map D.int))),some (.dct none (kv P)),a,b,c]
    = some (.next [X0,X1,X2,X3,X4,some (.dct none (kv E)),some (.val (.lst (us.map D.int))),some (.dct none (kv P')),a',b',c'])
 | [],k,P,a,b,c,_,_,nd,_=>⟨P,a,b,c,nd,by simp,by simp[enumD]⟩
 |t::ts,k,P,a,b,c,hE,hl,nd,hP=>by
  simp only[List.length_cons] at hl hP
  obtain⟨e,he⟩:=hE t (by simp)
  have kE:=xG t.1 E
  rw[he] at kE
  simp only[Option.map_some] at kE
  obtain⟨m,hm⟩:∃m,us[k+1]?=some m:=⟨us[k+1],List.getElem?_eq_getElem #[1]⟩
  obtain⟨s,hs⟩:∃s,us[0]?=some s:=⟨us[0],List.getElem?_eq_getElem #[1]⟩
  have i1:atI (us.map D.int) ((k:Int)+1)=some (.int m):=by
   have:=atI_nat (xs:=us.map D.int) (i:=k+1) (v:=.int m) (by simp[hm])
   simpa using this
  have i0:atI (us.map D.int) 0=some (.int s):=by
   have:=atI_nat (xs:=us.map D.int) (i:=0) (v:=.int s) (by simp[hs])
   simpa using this
  have h0:atI (α:=D) [.str t.1,.int t.2] 0=some (.str t.1):=rfl
  have hz:(kv P).length < sizeLine:=by rw[YG];exact line9 #[1]
  have key:∀P1:SI,(keysS P1).Nodup->P1.length<=P.length+1->xQ [X0,X1,X2,X3,X4,some (.dct none (kv E)),some (.val (.lst (us.map D.int))),some (.dct none (kv P)),some (.val (.int (k:Int))),some (.val (tkD t)),c]
    = some (.next [X0,X1,X2,X3,X4,some (.dct none (kv E)),some (.val (.lst (us.map D.int))),some (.dct none (kv P1)),some (.val (.int (k:Int))),some (.val (tkD t)),some (.val (.int m))]) ->
   ∃(P':SI) (a' b' c':Option En),(keysS P').Nodup/\P'.length<=P.length+(ts.length+1) /\
   forD (.tup [8,9]) xQ (enumD k ((t::ts).map tkD)) [X0,X1,X2,X3,X4,some (.dct none (kv E)),some (.val (.lst (us.map D.int))),some (.dct none (kv P)),a,b,c]
    = some (.next [X0,X1,X2,X3,X4,some (.dct none (kv E)),some (.val (.lst (us.map D.int))),some (.dct none (kv P')),a',b',c']):=λP1 n1 l1 e1=>by
   obtain⟨P',a',b',c',g1,g2',g3⟩:=JU X0 X1 X2 X3 X4 E us ts (k+1) P1 (some (.val (.int (k:Int)))) (some (.val (tkD t))) (some (.val (.int m))) (λu hu=>hE u (by simp[hu])) #[1] n1 #[1]
   refine⟨P',a',b',c',g1,by omega,?_⟩
   rw[<-g3]
   simp only[List.map_cons,enumD,xX,asgD,z7]
   simp[e1]
  by_cases c1:m < 10
  ·refine key (putS P t.1 (e+m % 7)) (Vq nd) (by have:=jG t.1 (e+m % 7) P;omega) ?_
   have hp:=kZ t.1 (e+m % 7) P
   simp[xQ,i1,c1,tkD,h0,kE,yh,hz,hp]
  ·by_cases c2:m=10/\s=3
   ·refine key (putS P t.1 (e - 1 - (k:Int) % 3)) (Vq nd) (by have:=jG t.1 (e - 1 - (k:Int) % 3) P;omega) ?_
    have hp:=kZ t.1 (e - 1 - (k:Int) % 3) P
    simp[xQ,i1,i0,c1,c2.1,c2.2,tkD,h0,kE,yh,hz,hp]
   ·refine key P nd #[1] ?_
    by_cases c3:m=10
    ·have c4:¬(s=3):=λh=>c2 ⟨c3,h⟩
     simp[xQ,i1,i0,c3,c4]
    ·simp[xQ,i1,c1,c3]
section
variable {C:Str->Addr}{q:SI}{ks:List HM.Row}{rest b0:Int}{side:D}{zc:Int->Nat}{out:List #[17]}
theorem Uo (ns:List Int)(at0:Nat)(W:Wd q rest ks side zc b0)(R:Rn C q rest ks side b0 out):∃P:SI,(keysS P).Nodup/\P.length<=50 /\
  jQ [.val (.scr ns),.val (.int at0),.val (.lst #[6]),.val side,.val (.int b0)]=some (.dct none (kv P)):=by
 have hl:=W.q5.len
 obtain⟨us,r1,p1⟩:=wX ns at0 ([4]++(List.replicate q.length [12]).flatten) (λb hb=>by
  rcases List.mem_append.mp hb with hb | hb
  ·simp at hb;omega
  ·obtain⟨l,hl,hb⟩:=List.mem_flatten.mp hb
   rw[List.eq_of_mem_replicate hl] at hb
   simp at hb
   omega) #[18]
 have l1:us.length=q.length+1:=by rw[r1.len];simp
 obtain⟨P',a',b',c',g1,g2',g3⟩:=JU (some (.val (.scr ns))) (some (.val (.int at0))) (some (.val (.lst #[6]))) (some (.val side)) (some (.val (.int b0))) (endsS [] out) us q 0 [("nobody",0)] none none none R.ends #[1] (by simp[keysS]) #[18]
 refine⟨P',g1,by simp at g2';omega,?_⟩
 have e1:=R.law
 have e2:=JP R.w R.len
 have er:=Y9 [12] (n:=q.length) #[18] #[1]
 rw[List.map_append] at p1
 have hT:q.length<=TOP:=zM #[1]
 have hTe:(enumD 0 #[6]).length<=TOP:=by rw[uV];simpa using hT
 have hlen:((List.replicate q.length [(12:Int)]).flatten).length=q.length:=by simp
 have t1:1<=TOP:=by decide
 generalize hR2:(List.replicate q.length [(12:Int)]).flatten.map D.int=R2 at *
 have hl2:R2.length=q.length:=by rw[<-hR2];simpa using hlen
 have hl3:1+R2.length<=TOP:=zM #[1]
 generalize endsS [] out=E at *
 generalize us.map D.int=U at *
 have hK:kv [("nobody",0)]=[(.inr "nobody",.int 0)]:=rfl
 rw[hK] at g3
 simp only[List.map_cons,List.map_nil,List.cons_append,List.nil_append] at p1 er
 simp[jQ,mir,stE,kW,Zd,e1,e2,p1,er,t1,hT,hl3,hTe,g3]
end
def numD (lo hi:Int):D->Bool
 |.int i=>decide (lo<=i/\i<=hi)
 |_=>false
def NumK:D->Prop
 |.int _=>True
 |.non=>True
 |.bl _=>True
 |.str _=>True
 |_=>False
theorem sII:subT "int" "int" = some true:=by decide
theorem sIB:subT "int" "bool" = some false:=by decide
theorem sNI:subT "NoneType" "int" = some false:=by decide
theorem sSI:subT "str" "int" = some false:=by decide
theorem sBI:subT "bool" "int" = some true:=by decide
theorem sBB:subT "bool" "bool" = some true:=by decide
theorem jL:∀ {d:D},NumK d->∀(lo hi:Int),zN [.val d,.val (.int lo),.val (.int hi)]=some (.val (.bl (numD lo hi d)))
 |.int i,_,lo,hi=>by
  by_cases h:lo<=i<;>simp[zN,mir,stE,xS,w5,yY,ji,wc,sII,sIB,sNI,sSI,sBI,sBB,numD,h]
 |.non,_,lo,hi=>by simp[zN,mir,stE,xS,w5,yY,ji,wc,sII,sIB,sNI,sSI,sBI,sBB,numD]
 |.bl b,_,lo,hi=>by simp[zN,mir,stE,xS,w5,yY,ji,wc,sII,sIB,sNI,sSI,sBI,sBB,numD]
 |.str x,_,lo,hi=>by simp[zN,mir,stE,xS,w5,yY,ji,wc,sII,sIB,sNI,sSI,sBI,sBB,numD]
 |.lst _,h,_,_=>h.elim
 |.tup _,h,_,_=>h.elim
 |.scr _,h,_,_=>h.elim
 |.obj _ _ _,h,_,_=>h.elim
 |.emp,h,_,_=>h.elim
theorem qd:∀ {d:D},NumK d->∀(lo hi:Int),xl [.val d,.val (.int lo),.val (.int hi)]=some (.val (.bl (numD lo hi d)))
 |.int i,_,lo,hi=>by
  by_cases h:lo<=i<;>simp[xl,mir,stE,w4,vi,sII,sIB,sNI,sSI,sBI,sBB,numD,h]
 |.non,_,lo,hi=>by simp[xl,mir,stE,w4,vi,sII,sIB,sNI,sSI,sBI,sBB,numD]
 |.bl b,_,lo,hi=>by simp[xl,mir,stE,w4,vi,sII,sIB,sNI,sSI,sBI,sBB,numD]
 |.str x,_,lo,hi=>by simp[xl,mir,stE,w4,vi,sII,sIB,sNI,sSI,sBI,sBB,numD]
 |.lst _,h,_,_=>h.elim
 |.tup _,h,_,_=>h.elim
 |.scr _,h,_,_=>h.elim
 |.obj _ _ _,h,_,_=>h.elim
 |.emp,h,_,_=>h.elim
def Bad (b0:Int)(d1 d2:D):Prop:=numD b0 100000 d1=false∨∃f,d1=.int f/\b0<=f/\f<=100000/\(numD f 100000 d2=false∨∃L,d2=.int L/\f<=L/\L<=100000/\50<=L - f)
structure Bk (b0 f L:Int):Prop where
 lo:b0<=f
 le:f<=L
 hi:L<=100000
 few:L - f < 50
theorem QL {lo hi:Int}{d:D}(h:numD lo hi d=true):∃i,d=.int i/\lo<=i/\i<=hi:=by
 cases d with
 |int i=>exact⟨i,rfl,by simpa[numD] using h⟩
 |_=>cases h
section
variable {b0 f L:Int}{d1 d2:D}
theorem zgk (k1:NumK d1)(k2:NumK d2):Bad b0 d1 d2∨∃f L,d1=.int f/\d2=.int L/\Bk b0 f L:=by
 cases h1:numD b0 100000 d1 with
 |false=>exact .inl (.inl h1)
 |true=>
  obtain⟨f,rfl,a1,a2⟩:=QL h1
  cases h2:numD f 100000 d2 with
  |false=>exact .inl (.inr ⟨f,rfl,a1,a2,.inl h2⟩)
  |true=>
   obtain⟨L,rfl,b1,b2⟩:=QL h2
   by_cases c:L - f < 50
   ·exact .inr ⟨f,L,rfl,rfl,a1,b1,b2,c⟩
   ·exact .inl (.inr ⟨f,rfl,a1,a2,.inr ⟨L,rfl,b1,b2,by omega⟩⟩)
theorem pw5:fPow (.int 10) (.int 5)=some (.int 100000):=by rfl
theorem pw6:fPow (.int 10) (.int 6)=some (.int 1000000):=by rfl
theorem zb8 (k1:NumK d1)(k2:NumK d2)(h:Bad b0 d1 d2):yI [.val (.int b0),.val d1,.val d2]=none/\xV [.val (.int b0),.val d1,.val d2]=some (("NoNumber" : Str),none):=by
 have e1:=jL k1 b0 100000
 rcases h with h | ⟨f,rfl,a1,a2,h | ⟨L,rfl,b1,b2,h⟩⟩
 ·rw[h] at e1
  exact⟨by simp[yI,mir,stE,yC,jn,e1,sNever,outO],by simp[xV,mirY,stE,yC,jN,yAlt,yIf,xU,e1]⟩
 ·have n1:numD b0 100000 (.int f)=true:=decide_eq_true ⟨a1,a2⟩
  rw[n1] at e1
  have e2:=jL k2 f 100000
  rw[h] at e2
  exact⟨by simp[yI,mir,stE,yC,jn,e1,e2,sNever,outO],by simp[xV,mirY,stE,yC,jN,yAlt,yIf,yNo,ySeq,xU,e1,e2]⟩
 ·have n1:numD b0 100000 (.int f)=true:=decide_eq_true ⟨a1,a2⟩
  rw[n1] at e1
  have e2:=jL k2 f 100000
  have n2:numD f 100000 (.int L)=true:=decide_eq_true ⟨b1,b2⟩
  rw[n2] at e2
  exact⟨by simp[yI,mir,stE,yC,jn,e1,e2,h,sNever,outO],by simp[xV,mirY,stE,yC,jN,yAlt,yIf,yNo,ySeq,xU,e1,e2,h]⟩
theorem zeo (h:Bk b0 f L):yI [.val (.int b0),.val (.int f),.val (.int L)]=some (.val .non):=by
 have e1:=jL (d:=.int f) trivial b0 100000
 have e2:=jL (d:=.int L) trivial f 100000
 have n1:numD b0 100000 (.int f)=true:=decide_eq_true ⟨h.lo,by have:=h.le;have:=h.hi;omega⟩
 have n2:numD f 100000 (.int L)=true:=decide_eq_true ⟨h.le,h.hi⟩
 rw[n1] at e1
 rw[n2] at e2
 have h3:¬(50<=L - f):=by have:=h.few;omega
 simp[yI,mir,stE,yC,jn,e1,e2,h3]
theorem za2 (k1:NumK d1)(k2:NumK d2)(h:Bad b0 d1 d2):yz [.val (.int b0),.val (.lst [d1,d2])]=some (.val (.bl false)):=by
 have e1:=qd k1 b0 100000
 rcases h with h | ⟨f,rfl,a1,a2,h | ⟨L,rfl,b1,b2,h⟩⟩
 ·rw[h] at e1
  simp[yz,mir,stE,wo,vo,z7,pw5,e1]
 ·have n1:numD b0 100000 (.int f)=true:=decide_eq_true ⟨a1,a2⟩
  rw[n1] at e1
  have e2:=qd k2 f 100000
  rw[h] at e2
  simp[yz,mir,stE,wo,vo,z7,pw5,e1,e2]
 ·have n1:numD b0 100000 (.int f)=true:=decide_eq_true ⟨a1,a2⟩
  rw[n1] at e1
  have e2:=qd k2 f 100000
  have n2:numD f 100000 (.int L)=true:=decide_eq_true ⟨b1,b2⟩
  rw[n2] at e2
  have h3:¬(L - f < 50):=by omega
  simp[yz,mir,stE,wo,vo,z7,pw5,e1,e2,h3]
theorem zaj (h:Bk b0 f L):yz [.val (.int b0),.val (.lst [.int f,.int L])]=some (.val (.bl true)):=by
 have e1:=qd (d:=.int f) trivial b0 100000
 have e2:=qd (d:=.int L) trivial f 100000
 have n1:numD b0 100000 (.int f)=true:=decide_eq_true ⟨h.lo,by have:=h.le;have:=h.hi;omega⟩
 have n2:numD f 100000 (.int L)=true:=decide_eq_true ⟨h.le,h.hi⟩
 rw[n1] at e1
 rw[n2] at e2
 have h3:=h.few
 simp[yz,mir,stE,wo,vo,z7,pw5,e1,e2,h3]
end
structure Wl (q:SI)(rs:List HM.Row)(rest b0:Int):Prop where
 q5:Q5 q
 fit:Fit rs rest
 b0:0<=b0
section
variable {C:Str->Addr}{q:SI}{rs ks:List HM.Row}{rest b0 f L u:Int}{P:SI}{x:En}{out:List #[17]}{o:Option (Str×Int×Int)}
theorem Wl.pos (W:Wl q rs rest b0):Pos (krows rest rs):=u7 rest rs W.fit.pos
theorem Wl.wd (W:Wl q rs rest b0):Wd q rest (krows rest rs) (sideW rs rest 1 0) (zcR rs) b0:=by
 refine⟨W.q5,W.fit.hok,λx hx=>?_,?_,W.b0⟩
 ·have e:=Kz (rs:=rs) (rest:=rest) (x:=x) (f:=1) (L:=0)
  rw[if_neg #[1],Int.sub_zero] at e
  rw[W.fit.at];exact e
 ·have:=W.fit.tot
  have:=W.b0
  unfold zcR;omega
theorem Wl.wdW (W:Wl q rs rest b0)(h:Bk b0 f L)(hb:bareR f L (krows rest rs) 0=none):Wd q rest (lessR rest f L (krows rest rs)) (sideW rs rest f L) (zcW rs f L) b0:=by
 refine⟨W.q5,W.fit.hokW h.le hb,λx hx=>?_,?_,W.b0⟩
 ·rw[VU W.pos W.fit.lo h.le hb hx,W.fit.at];exact Kz
 ·have:=W.fit.tot
  have:=W.b0
  have:=h.few
  unfold zcW;omega
theorem RL (hl:q.length<=900)(hx:Lq x #[6])(hu:bareR f L ks 0=some u) :
  xz C [x,.val #[25],.val (.int b0),.dbo (kv P),.val (.int f),.val (.int L)]=some (.val (nrD C q #[25] b0 u)):=by
 have e1:=Zx C (rest:=rest) (f:=f) (L:=L) (ks:=ks)
 rw[hu] at e1
 have e2:=Rb (h:=hoursD #[5] rest ks) (b0:=b0) C hx hl (u:=u)
 have hnn:isNon (D.int u)=false:=rfl
 simp only[hoursD,optD] at e1 e2
 rcases hx with rfl | rfl<;>simp[xz,mir,stE,jP,kr,hoursD,Zj,e1,e2,hnn,nrD]
theorem RJ (hx:Lq x #[6])(hp:Pos ks)(hl:ks.length<=90)(h1:1<=rest)(h2:rest<=8)(h:Bk b0 f L)(hb:bareR f L ks 0=none){v:D}
  (hs:yg C [x,.val (hoursD #[5] rest (lessR rest f L ks)),.val (.int b0),.dbo (kv P)]=some (.val v)) :
  xz C [x,.val #[25],.val (.int b0),.dbo (kv P),.val (.int f),.val (.int L)]=some (.val v):=by
 have e1:=Zx C (rest:=rest) (f:=f) (L:=L) (ks:=ks)
 rw[hb] at e1
 have e2:=Up C hp hl h1 h2 h.le hb
 generalize hoursD #[5] rest (lessR rest f L ks)=H' at *
 simp only[hoursD,optD] at e1 e2
 rcases hx with rfl | rfl<;>simp[xz,mir,stE,jP,kr,hoursD,Zj,Rk,e1,e2,hs]
theorem VX {H v:D}(h:Bk b0 f L)(hx:Lq x #[6])(hs:xz C [x,.val H,.val (.int b0),.dbo (kv P),.val (.int f),.val (.int L)]=some (.val v)) :
  xp C [x,.val H,.val (.int b0),.dbo (kv P),.val (.int f),.val (.int L)]=some (.val v):=by
 have e:=zeo h
 rcases hx with rfl | rfl<;>simp[xp,mir,stE,wa,qW,e,hs]
theorem GA {H d1 d2:D}(hx:Lq x #[6])(h:yI [.val (.int b0),.val d1,.val d2]=none/\xV [.val (.int b0),.val d1,.val d2]=some (("NoNumber" : Str),none)) :
  xp C [x,.val H,.val (.int b0),.dbo (kv P),.val d1,.val d2]=none/\vX [x,.val H,.val (.int b0),.dbo (kv P),.val d1,.val d2]=some (("NoNumber" : Str),none):=by
 obtain⟨h1,h2⟩:=h
 rcases hx with rfl | rfl
 all_goals exact⟨by simp[xp,mir,stE,wa,qW,h1,outO],by simp[vX,mirY,stE,wa,Z2,yE,yCall,h2]⟩
theorem Jd {H v d1 d2:D}(hx:Lq x #[6])(h:xp C [x,.val H,.val (.int b0),.dbo (kv P),.val d1,.val d2]=some (.val v)) :
  xy C [x,.val H,.val (.int b0),.dbo (kv P),.val (.lst [d1,d2])]=some (.val (.tup [.str "good",v])):=by
 have i0:atI (α:=D) [d1,d2] 0=some d1:=rfl
 have i1:atI (α:=D) [d1,d2] 1=some d2:=rfl
 rcases hx with rfl | rfl<;>simp[xy,mir,stE,qt,kd,sTryV,i0,i1,h,t2]
theorem zel {H d1 d2:D}(hx:Lq x #[6])(h:xp C [x,.val H,.val (.int b0),.dbo (kv P),.val d1,.val d2]=none/\vX [x,.val H,.val (.int b0),.dbo (kv P),.val d1,.val d2]=some (("NoNumber" : Str),none)) :
  xy C [x,.val H,.val (.int b0),.dbo (kv P),.val (.lst [d1,d2])]=some (.val (.tup [.str "number",.non])):=by
 obtain⟨h1,h2⟩:=h
 have i0:atI (α:=D) [d1,d2] 0=some d1:=rfl
 have i1:atI (α:=D) [d1,d2] 1=some d2:=rfl
 rcases hx with rfl | rfl<;>simp[xy,mir,stE,qt,kd,sTryV,yE,yCall,i0,i1,h1,h2,pickV,List.lookup,okV,suD,jCon,t2]
section
variable {X0 X2 X3 X4:Option En}{side:D}
theorem Vb (hs:∀x,0<=x->zY [.val side,.val (.int x)]=some (.val (.int (atR rest ks x)))):∀(n:Nat) (s:Int) (a:Option En),0<=s->(∀t,s<=t->t < s+n->atR rest ks t≠0)->∃a':Option En,
  forD (.name 5) wN (rngD s n) [X0,some (.val side),X2,X3,X4,a]=some (.next [X0,some (.val side),X2,X3,X4,a'])
 |0,s,a,_,_=>⟨a,by simp[rngD]⟩
 |n+1,s,a,h0,h=>by
  have e1:=hs s h0
  have h1:=h s (Int.le_refl _) #[1]
  obtain⟨a',p⟩:=Vb hs n (s+1) (some (.val (.int s))) #[1] (λt t1 t2=>h t #[1] #[1])
  refine⟨a',?_⟩
  rw[<-p]
  simp[rngD,asgD,wN,e1,h1]
theorem Qw (hs:∀x,0<=x->zY [.val side,.val (.int x)]=some (.val (.int (atR rest ks x))))(hu:atR rest ks u=0):∀(n:Nat) (s:Int) (a:Option En),0<=s->s<=u->u < s+n->(∀t,s<=t->t < u->atR rest ks t≠0) ->
  forD (.name 5) wN (rngD s n) [X0,some (.val side),X2,X3,X4,a]=some (.ret (.val (.tup [.str "no counter",.int u])))
 |0,s,a,_,h1,h2,_=>by omega
 |n+1,s,a,h0,h1,h2,h=>by
  have e1:=hs s h0
  by_cases c:s=u
  ·subst c
   rw[hu] at e1
   simp[rngD,asgD,wN,e1,t2]
  ·have h3:=h s (Int.le_refl _) #[1]
   rw[<-Qw hs hu n (s+1) (some (.val (.int s))) #[1] #[1] #[1] (λt t1 t2=>h t #[1] t2)]
   simp[rngD,asgD,wN,e1,h3]
end
theorem Gq (W:Wl q rs rest b0)(h:Bk b0 f L)(hu:bareR f L (krows rest rs) 0=some u):(f<=u/\u<=L/\atR rest (krows rest rs) u=0) /\
  xk [.val (.lst #[6]),.val (sideW rs rest 1 0),.val (.int b0),.dbo (kv P),.val (.lst [.int f,.int L])]=some (.val (.tup [.str "no counter",.int u])):=by
 have sp:=Z3 (f:=f) (L:=L) (rest:=rest) (by have:=W.fit.lo;omega) (krows rest rs) 0 W.pos
 rw[hu] at sp
 obtain⟨s1,s2,s3,s4⟩:=sp
 rw[Int.sub_zero] at s3
 have hf:=h.lo
 have hb:=W.b0
 refine⟨⟨by omega,s2,s3⟩,?_⟩
 have p:=Qw (X0:=some (.val (.lst #[6]))) (X2:=some (.val (.int b0))) (X3:=some (.dbo (kv P))) (X4:=some (.val (.lst [.int f,.int L]))) W.wd.sd s3 (L+1 - f).toNat f none #[1] #[1] #[1] (λt t1 t2=>by have:=s4 t #[1] t2;rwa [Int.sub_zero] at this)
 have hBig:(-BIG<=f/\f<=BIG)/\-BIG<=L+1/\L+1<=BIG:=by have:=h.le;have:=h.hi;simp only[BIG];omega
 have i0:atI (α:=D) [.int f,.int L] 0=some (.int f):=rfl
 have i1:atI (α:=D) [.int f,.int L] 1=some (.int L):=rfl
 simp[xk,mir,stE,jS,ul,i0,i1,hBig,p]
theorem zag (W:Wl q rs rest b0)(h:Bk b0 f L)(hb:bareR f L (krows rest rs) 0=none){v:D}
  (hv:ww [.val (.lst #[6]),.val (sideW rs rest f L),.val (.int b0),.dbo (kv P)]=some (.val v)) :
  xk [.val (.lst #[6]),.val (sideW rs rest 1 0),.val (.int b0),.dbo (kv P),.val (.lst [.int f,.int L])]=some (.val v):=by
 have sp:=Z3 (f:=f) (L:=L) (rest:=rest) (by have:=W.fit.lo;omega) (krows rest rs) 0 W.pos
 rw[hb] at sp
 have hf:=h.lo
 have hb0:=W.b0
 have hle:=h.le
 obtain⟨a',p⟩:=Vb (X0:=some (.val (.lst #[6]))) (X2:=some (.val (.int b0))) (X3:=some (.dbo (kv P))) (X4:=some (.val (.lst [.int f,.int L]))) W.wd.sd (L+1 - f).toNat f none #[1] (λt t1 t2=>by have:=sp t #[1] #[1];rwa [Int.sub_zero] at this)
 have hBig:(-BIG<=f/\f<=BIG)/\-BIG<=L+1/\L+1<=BIG:=by have:=h.hi;simp only[BIG];omega
 have i0:atI (α:=D) [.int f,.int L] 0=some (.int f):=rfl
 have i1:atI (α:=D) [.int f,.int L] 1=some (.int L):=rfl
 have j0:atI (α:=D) [.lst (rs.map rowD),.int rest,.int 1,.int 0] 0=some (.lst (rs.map rowD)):=rfl
 have j1:atI (α:=D) [.lst (rs.map rowD),.int rest,.int 1,.int 0] 1=some (.int rest):=rfl
 have t4:4<=TOP:=by decide
 simp only[sideW] at p hv ⊢
 simp[xk,mir,stE,jS,ul,i0,i1,j0,j1,hBig,p,t4,hv]
end
theorem vN {neg:Bool}{a b:Int}:fEq neg (.int a) (.int b)=some (.bl (if neg then !decide (a=b) else decide (a=b))):=j4 Wy Wy #[7] #[7] (wY a b)
theorem vh {neg:Bool}{x y:Str}(hx:Ok x)(hy:Ok y):fEq neg (.str x) (.str y)=some (.bl (if neg then !decide (x=y) else decide (x=y))):=j4 (Yi hx) (Yi hy) #[7] #[7] (xZ x y)
theorem zat {x y:Bool}(h:x=y):wW [.val (.bl x),.val (.bl y)]=some (.val (.bl true)):=by
 subst h
 have:fEq false (.bl x) (.bl x)=some (.bl true):=by
  have hl:Lay 0 (.bl x):=⟨rfl,Nat.le_refl _⟩
  exact j4 (neg:=false) hl hl #[7] #[7] (b:=true) (by cases x<;>rfl)
 have hb:subT "bool" "bool" = some true:=by decide +kernel
 simp[wW,mir,stE,qC,YT,this,hb]
section
variable {C:Str->Addr}{q:SI}{ks:List HM.Row}{rest b0 u:Int}{side:D}{zc:Int->Nat}{out:List #[17]}{o:Option (Str×Int×Int)}{ρ:EnvD}{h:D}{P:SI}{k k':Nat}
theorem zao (hC:UC C)(hw:∀r∈out,r.2.length<=100)(hl:out.length<=5000)(h7:gv k ρ=some (vD C q h b0 out o)) :
  yAlt (gMeth #[16] "told" (len? 1 (y6 C)) frzO (gv k) nNil) (yAlt (gMeth (C "Late") "told" (len? 1 (yw C)) frzO (gv k) nNil) (gMeth #[12] "told" (len? 1 (yA C)) frzO (gv k) nNil)) ρ=some (dueD o out):=by
 have hC':=Ne.symm hC.gl
 rw[yd,yd,zQ,zQ,zQ,h7]
 cases o with
 |none=>
  have e:=Jj (q:=q) (h:=h) (b0:=b0) C
  have er:=V5 (out:=out)
  simp only[grD] at e
  simp[vD,grD,Jo,e,frzO,er,dueD]
 |some o=>
  obtain⟨n,p,e'⟩:=o
  have e:=Yb (q:=q) (h:=h) (b0:=b0) (n:=n) (p:=p) (e:=e') C hw hl
  have er:=ZZ n p e' out
  simp only[laD] at e
  simp[vD,laD,Zb,e,frzO,er,hC']
theorem zgj (hC:UC C)(h7:gv k ρ=some (nrD C q h b0 u)) :
  yAlt (gMeth #[16] "told" (len? 1 (y6 C)) frzO (gv k) nNil) (yAlt (gMeth (C "Late") "told" (len? 1 (yw C)) frzO (gv k) nNil) (gMeth #[12] "told" (len? 1 (yA C)) frzO (gv k) nNil)) ρ=some (.tup [.str "no counter",.int u]):=by
 have h1:=Ne.symm hC.gn
 have h2:=Ne.symm hC.ln
 rw[yd,yd,zQ,zQ,zQ,h7]
 have e:=zhc (q:=q) (h:=h) (b0:=b0) (u:=u) C
 simp only[nrD] at e
 simp[nrD,UW,e,frzO,h1,h2,OT.erase,erases]
theorem RK (hC:UC C)(h7:gv k ρ=some (vD C q h b0 out o)) :
  yAlt (gMeth #[16] "granted" (len? 1 (y3 C)) frzO (gv k) nNil) (yAlt (gMeth (C "Late") "granted" (len? 1 (y7 C)) frzO (gv k) nNil) (gMeth #[12] "granted" (len? 1 (yF C)) frzO (gv k) nNil)) ρ=some (.bl o.isNone):=by
 have hC':=Ne.symm hC.gl
 rw[yd,yd,zQ,zQ,zQ,h7]
 cases o with
 |none=>
  have e:=Jc (C:=C) (q:=q) (h:=h) (b0:=b0)
  simp only[grD] at e
  simp[vD,grD,QF,e]
 |some o=>
  obtain⟨n,p,e'⟩:=o
  have e:=Wa (C:=C) (q:=q) (h:=h) (b0:=b0) (n:=n) (p:=p) (e:=e') (out:=out)
  simp only[laD] at e
  simp[vD,laD,K2,e,hC']
theorem zgm (hC:UC C)(h7:gv k ρ=some (nrD C q h b0 u)) :
  yAlt (gMeth #[16] "granted" (len? 1 (y3 C)) frzO (gv k) nNil) (yAlt (gMeth (C "Late") "granted" (len? 1 (y7 C)) frzO (gv k) nNil) (gMeth #[12] "granted" (len? 1 (yF C)) frzO (gv k) nNil)) ρ=some (.bl false):=by
 have h1:=Ne.symm hC.gn
 have h2:=Ne.symm hC.ln
 rw[yd,yd,zQ,zQ,zQ,h7]
 have e:=Um (q:=q) (h:=h) (b0:=b0) (u:=u) C
 simp only[nrD] at e
 simp[nrD,zfl,e,h1,h2]
theorem R9 (hC:UC C)(W:Wd q rest ks side zc b0)(R:Rn C q rest ks side b0 out)(ho:OkO o)(h7:gv k ρ=some (vD C q #[25] b0 out o)) (hk:gn k' ρ=some (.dbo (kv P))) :
  yAlt (gMeth #[16] "holds" (len? 2 (yN C)) frzO (gv k) (nCons (gn k') nNil)) (yAlt (gMeth (C "Late") "holds" (len? 2 (yG C)) frzO (gv k) (nCons (gn k') nNil)) (gMeth #[12] "holds" (len? 2 (xf C)) frzO (gv k) (nCons (gn k') nNil))) ρ=some (.bl (decide (late (endsS [] out) P q=o))):=by
 have hC':=Ne.symm hC.gl
 rw[yd,yd,zQ,zQ,zQ,h7,xD,hk]
 cases o with
 |none=>
  have e:=U3 (P:=P) hC W R
  simp only[grD] at e
  simp[vD,grD,GP,e]
  cases late (endsS [] out) P q<;>simp
 |some o=>
  obtain⟨n,p,e'⟩:=o
  have e:=zg7 (P:=P) hC W R (n:=n) (p:=p) (e:=e') (ho n p e' rfl)
  simp only[laD] at e
  simp[vD,laD,zfg,e,hC']
theorem RY (hC:UC C)(hp:Pos ks)(hu:b0<=u)(ha:atR rest ks u=0)(h7:gv k ρ=some (nrD C q #[25] b0 u)) (hk:gn k' ρ=some (.dbo (kv P))) :
  yAlt (gMeth #[16] "holds" (len? 2 (yN C)) frzO (gv k) (nCons (gn k') nNil)) (yAlt (gMeth (C "Late") "holds" (len? 2 (yG C)) frzO (gv k) (nCons (gn k') nNil)) (gMeth #[12] "holds" (len? 2 (xf C)) frzO (gv k) (nCons (gn k') nNil))) ρ=some (.bl true):=by
 have h1:=Ne.symm hC.gn
 have h2:=Ne.symm hC.ln
 rw[yd,yd,zQ,zQ,zQ,h7,xD,hk]
 have e:=za5 (q:=q) (b0:=b0) C (y:=.dbo (kv P)) hp hu ha
 simp only[nrD] at e
 simp[nrD,R5,e,h1,h2]
theorem zea (hC:UC C)(h7:gv k ρ=some (vD C q h b0 out o)):yAlt (gFld #[16] "hours" (gv k)) (yAlt (gFld (C "Late") "hours" (gv k)) (gFld #[12] "hours" (gv k))) ρ=some h:=by
 have hC':=Ne.symm hC.gl
 rw[yd,yd,wT,wT,wT,h7]
 cases o with
 |none=>simp[vD,grD,Y0]
 |some o=>
  obtain⟨n,p,e'⟩:=o
  simp[vD,laD,Ya,hC']
theorem RT (hC:UC C)(h7:gv k ρ=some (nrD C q h b0 u)):yAlt (gFld #[16] "hours" (gv k)) (yAlt (gFld (C "Late") "hours" (gv k)) (gFld #[12] "hours" (gv k))) ρ=some h:=by
 have h1:=Ne.symm hC.gn
 have h2:=Ne.symm hC.ln
 rw[yd,yd,wT,wT,wT,h7]
 simp[nrD,QZ,h1,h2]
theorem JY {v bs:D}{X1 X2 X3:Option En}(hv:∀a,yAlt (gFld #[16] "hours" (gv 0)) (yAlt (gFld (C "Late") "hours" (gv 0)) (gFld #[12] "hours" (gv 0))) [some (.val v),X1,X2,X3,some (.val bs),a]=some #[25]) (hp:Pos ks)
  (hs:∀x,0<=x->zY [.val bs,.val (.int x)]=some (.val (.int (atR rest ks x)))):∀(ts:List Int) (a:Option En),(∀t∈ts,0<=t)->∃a':Option En,
  forD (.name 5) (kL C) (ts.map D.int) [some (.val v),X1,X2,X3,some (.val bs),a]=some (.next [some (.val v),X1,X2,X3,some (.val bs),a'])
 | [],a,_=>⟨a,by simp⟩
 |t::ts,a,h=>by
  obtain⟨a',p⟩:=JY hv hp hs ts (some (.val (.int t))) (λx hx=>h x (by simp[hx]))
  refine⟨a',?_⟩
  have e1:=Yp C (rest:=rest) (x:=t) hp
  have e2:=hs t (h t (by simp))
  have hv':=hv (some (.val (.int t)))
  have e3:kL C [some (.val v),X1,X2,X3,some (.val bs),some (.val (.int t))]=some (.next [some (.val v),X1,X2,X3,some (.val bs),some (.val (.int t))]):=by
   unfold kL
   rw[kX,uz,j6,zQ,hv']
   simp only[hoursD] at e1 ⊢
   simp[kP,e1,e2,vN]
  rw[<-p]
  simp only[List.map_cons,xX,asgD]
  simp[e3]
theorem Jk {v due bs:D}{rs:List HM.Row}{f L:Int}{w:Str}(h0:0<=f)(hfL:f<=L)(hd:fItem due (.int 0)=some (.str w))(hw:Ok w)(hbs:bs=if w = "no counter" then sideW rs rest 1 0 else sideW rs rest f L)
  (hv:∀X1 X2 X3 a,yAlt (gFld #[16] "hours" (gv 0)) (yAlt (gFld (C "Late") "hours" (gv 0)) (gFld #[12] "hours" (gv 0))) [some (.val v),X1,X2,X3,some (.val bs),a]=some #[25]) (hp:Pos ks)
  (hs:∀x,0<=x->zY [.val bs,.val (.int x)]=some (.val (.int (atR rest ks x)))) :
  xR C [.val v,.val (sideW rs rest 1 0),.val (.lst [.int f,.int L]),.val due]=some (.val (.bl true)):=by
 obtain⟨a',p⟩:=JY (X1:=some (.val (sideW rs rest 1 0))) (X2:=some (.val (.lst [.int f,.int L]))) (X3:=some (.val due)) (λa=>hv _ _ _ a) hp hs [f,L,L+1,max 0 (f - 1),1000000] none (λt ht=>by
  simp only[List.mem_cons,List.not_mem_nil,or_false] at ht
  omega)
 have okn:Ok "no counter" := by decide +kernel
 have eq1:=vh (neg:=false) hw okn
 have i0:atI (α:=D) [.int f,.int L] 0=some (.int f):=rfl
 have i1:atI (α:=D) [.int f,.int L] 1=some (.int L):=rfl
 have j0:atI (α:=D) [.lst (rs.map rowD),.int rest,.int 1,.int 0] 0=some (.lst (rs.map rowD)):=rfl
 have j1:atI (α:=D) [.lst (rs.map rowD),.int rest,.int 1,.int 0] 1=some (.int rest):=rfl
 have t4:4<=TOP:=by decide
 have t5:5<=TOP:=by decide
 simp only[List.map_cons,List.map_nil] at p
 by_cases c:w = "no counter"
 ·rw[if_pos c] at hbs
  subst hbs
  simp only[sideW] at p ⊢
  simp[c] at eq1 hd
  simp[xR,mir,stE,jD,u5,i0,i1,j0,j1,t4,t5,hd,eq1,pw6,p]
 ·rw[if_neg c] at hbs
  subst hbs
  simp only[sideW] at p ⊢
  simp[c] at eq1
  simp[xR,mir,stE,jD,u5,i0,i1,j0,j1,t4,t5,hd,eq1,pw6,p]
end
theorem WR {l:List D}{z:Int}(h0:0<=z)(h1:z < l.length)(h:∀x∈l,NumK x):∃x,atI l z=some x/\NumK x:=by
 obtain⟨n,rfl⟩:∃n:Nat,z=n:=⟨z.toNat,by omega⟩
 have hn:n < l.length:=by omega
 exact⟨l[n],wm n (List.getElem?_eq_getElem hn),h _ (List.getElem_mem hn)⟩
theorem pw20:fPow (.int 10) (.int 20)=some (.int 100000000000000000000):=by rfl
theorem Re {b0 near long odd other kind:Int}(h1:0<=kind)(h2:kind < 8):∃d1 d2,NumK d1/\NumK d2/\yQ [.val (.int b0),.val (.lst [.int near,.int long,.int odd,.int other,.int kind])]=some (.acc [d1,d2]):=by
 have t2:2<=TOP:=by decide
 have t6:6<=TOP:=by decide
 obtain⟨last,hlast⟩:∃last:Int,last=b0+near+(if other=3 then long else long % 8):=⟨_,rfl⟩
 have hm8:=yh (a:=long) (b:=8) #[1]
 have hp:atI (α:=D) [.int (long % 8),.int long] (if other=3 then 1 else 0)=some (.int (if other=3 then long else long % 8)):=by by_cases c:other=3<;>simp[c]<;>rfl
 by_cases c1:odd=6
 ·by_cases c2:kind < 6
  ·obtain⟨x,hx,kx⟩:=WR (l:=[.non,.bl true,.str "4",.int (b0 - 1),.int 100000,.int 100001]) h1 (by simpa using c2) (λy hy=>by
    simp only[List.mem_cons,List.not_mem_nil,or_false] at hy
    rcases hy with rfl | rfl | rfl | rfl | rfl | rfl<;>trivial)
   have q0:atI (α:=D) [x,.int 100000] 0=some x:=rfl
   have q1:atI (α:=D) [x,.int 100000] 1=some (.int 100000):=rfl
   have p0:atI (α:=D) [.int (long % 8),.int long] 0=some (.int (long % 8)):=rfl
   have p1:atI (α:=D) [.int (long % 8),.int long] 1=some (.int long):=rfl
   by_cases c4:kind < 3
   ·refine⟨x,.int 100000,kx,trivial,?_⟩
    by_cases c3:other=3<;>simp[yQ,mir,stE,x3,wI,z7,hm8,p0,p1,vN,c1,c2,c3,c4,t2,t6,pw5,hx,q0,q1]
   ·refine⟨x,x,kx,kx,?_⟩
    by_cases c3:other=3<;>simp[yQ,mir,stE,x3,wI,z7,hm8,p0,p1,vN,c1,c2,c3,c4,t2,t6,pw5,hx,q0,q1]
  ·refine⟨.int (b0+near),.int last,trivial,trivial,?_⟩
   by_cases c3:other=3<;>simp[c3] at hp hlast<;>simp[yQ,mir,stE,x3,wI,z7,hm8,hp,vN,c1,c2,c3,t2,hlast]
 ·by_cases c2:odd=7
  ·have hk6:=yh (a:=kind) (b:=6) #[1]
   obtain⟨y,hy,ky⟩:=WR (l:=[.non,.bl false,.int (b0+near - 1),.int (b0+near+50),.int (b0+near+49),.int 100000000000000000000]) (z:=kind % 6) (Int.emod_nonneg _ #[1]) (by simpa using Int.emod_lt_of_pos kind (show (0:Int) < 6 by omega)) (λy hy=>by
    simp only[List.mem_cons,List.not_mem_nil,or_false] at hy
    rcases hy with rfl | rfl | rfl | rfl | rfl | rfl<;>trivial)
   refine⟨.int (b0+near),y,trivial,ky,?_⟩
   by_cases c3:other=3<;>simp[c3] at hp<;>simp[yQ,mir,stE,x3,wI,z7,hm8,hk6,hp,vN,c1,c2,c3,t2,t6,pw20,hy]
  ·refine⟨.int (b0+near),.int last,trivial,trivial,?_⟩
   by_cases c3:other=3<;>simp[c3] at hp hlast<;>simp[yQ,mir,stE,x3,wI,z7,hm8,hp,vN,c1,c2,c3,t2,hlast]
theorem rng5 {a b c d e:Int}{us:List Int}(h:Rng [a,b,c,d,e] us):∃x y z w v,us=[x,y,z,w,v]/\0<=v/\v < e:=by
 match us,h with
 | [x,y,z,w,v],h=>exact⟨x,y,z,w,v,rfl,h.2.2.2.2.1⟩
 | [],h=>exact h.elim
 | [_],h=>exact h.2.elim
 | [_,_],h=>exact h.2.2.elim
 | [_,_,_],h=>exact h.2.2.2.elim
 | [_,_,_,_],h=>exact h.2.2.2.2.elim
 |_::_::_::_::_::_::_,h=>exact h.2.2.2.2.2.elim
theorem uh {a b:EnvD->Option Bool}{ρ:EnvD}(h1:a ρ=some false)(h2:b ρ=some false):gOr a b ρ=some false:=by simp[h1,h2]
def tailB (C:Str->Addr):SD:=#[36]
section
variable {C:Str->Addr}{q:SI}{rs ks:List HM.Row}{rest b0 f L u:Int}{P:SI}{out:List #[17]}{o:Option (Str×Int×Int)}
def lE (ns:List Int)(q:SI)(rs:List HM.Row)(rest b0:Int)(H:D)(P:SI)(x8 x9 x10 x11 x12 x13 x14:Option En):EnvD :=
 [some (.val (.scr ns)),some (.val (.lst #[6])),some (.val (.lst (rs.map rowD))),some (.val (.int rest)),some (.val (.int b0)),some (.val (sideW rs rest 1 0)),some (.val H),some (.dct none (kv P)),x8,x9,x10,x11,x12,x13,x14]
theorem KG:Ok "good" := by decide +kernel
theorem Vi:Ok "number" := by decide +kernel
theorem uL:Ok "no counter" := by decide +kernel
theorem zb0:¬(("no counter" : Str) = "granted"):=by decide +kernel
theorem zgw:¬(("granted" : Str) = "no counter"):=by decide +kernel
theorem zd9:¬(("late" : Str) = "no counter"):=by decide +kernel
theorem zd3 {neg:Bool}:fEq neg (.tup [.str "no counter",.int u]) (.tup [.str "no counter",.int u])=some (.bl (!neg)):=by
 have hl:Lay 1 (.tup [.str "no counter",.int u]):=by
  refine⟨?_,?_⟩
  ·show (PyData.canLay0 (.str "no counter")&&(PyData.canLay0 (.int u)&&true))=true
   rw[show PyData.canLay0 (.str "no counter")=true from uL];rfl
  ·show max 0 (max 0 0)+1<=1;omega
 have e:=j4 (neg:=neg) hl hl #[7] #[7] (b:=true) (by
  show (PyData.eqv (.str "no counter") (.str "no counter")&&(PyData.eqv (.int u) (.int u)&&true))=_
  rw[xZ,wY];simp)
 rw[e];cases neg<;>rfl
theorem WM {ns:List Int}{H v due:D}{w:Str}{z:Bool}{x8 x10 x11 x14:Option En}(ρ:EnvD)(hρ:ρ=lE ns q rs rest b0 H P x8 (some (.val (.lst [.int f,.int L]))) x10 x11 (some (.val (.str "good"))) (some (.val v)) (some (.val due)))
  (hdue:xk [.val (.lst #[6]),.val (sideW rs rest 1 0),.val (.int b0),.dbo (kv P),.val (.lst [.int f,.int L])]=some (.val due))
  (ht:yAlt (gMeth #[16] "told" (len? 1 (y6 C)) frzO (gv 13) nNil) (yAlt (gMeth (C "Late") "told" (len? 1 (yw C)) frzO (gv 13) nNil) (gMeth #[12] "told" (len? 1 (yA C)) frzO (gv 13) nNil)) ρ=some due)
  (heq:fEq true due due=some (.bl false))
  (hg:yAlt (gMeth #[16] "granted" (len? 1 (y3 C)) frzO (gv 13) nNil) (yAlt (gMeth (C "Late") "granted" (len? 1 (y7 C)) frzO (gv 13) nNil) (gMeth #[12] "granted" (len? 1 (yF C)) frzO (gv 13) nNil)) ρ=some (.bl z))
  (h0:fItem due (.int 0)=some (.str w)) (hz:fEq false (.str w) (.str "granted")=some (.bl z))
  (hh:yAlt (gMeth #[16] "holds" (len? 2 (yN C)) frzO (gv 13) (nCons (gn 7) nNil)) (yAlt (gMeth (C "Late") "holds" (len? 2 (yG C)) frzO (gv 13) (nCons (gn 7) nNil)) (gMeth #[12] "holds" (len? 2 (xf C)) frzO (gv 13) (nCons (gn 7) nNil))) ρ=some (.bl true))
  (hr:xR C [.val v,.val (sideW rs rest 1 0),.val (.lst [.int f,.int L]),.val due]=some (.val (.bl true))) :
  tailB C (lE ns q rs rest b0 H P x8 (some (.val (.lst [.int f,.int L]))) x10 x11 (some (.val (.str "good"))) (some (.val v)) x14)=some (.next ρ):=by
 have eg:fEq true (.str "good") (.str "good")=some (.bl false):=by rw[vh KG KG];simp
 have ei:=zat (x:=z) (y:=z) rfl
 have g14:gr 14 ρ=some due:=by rw[hρ];rfl
 have g12:gr 12 ρ=some (.str "good"):=by rw[hρ];rfl
 have n13:gn 13 ρ=some (.val v):=by rw[hρ];rfl
 have n5:gn 5 ρ=some (.val (sideW rs rest 1 0)):=by rw[hρ];rfl
 have n9:gn 9 ρ=some (.val (.lst [.int f,.int L])):=by rw[hρ];rfl
 have n14:gn 14 ρ=some (.val due):=by rw[hρ];rfl
 unfold tailB
 refine wg (ρ':=ρ) (by rw[hρ];simp[lE,hdue]) ?_
 refine V1 (uh ?_ (uh ?_ ?_)) ?_
 ·rw[uz,j6,g12];simp[eg]
 ·rw[uz,j6,ht,g14];simp[heq]
 ·rw[V8,JT,KB,xD,Qc,hg,xD,Qc,j6,j6,g14]
  simp[h0,hz,ei]
 ·rw[kX,uh]
  ·rfl
  ·rw[uz,j6,hh];simp
  ·rw[V8,JT,KB,xD,xD,xD,xD,n13,n5,n9,n14]
   simp[hr]
end
section
variable {C:Str->Addr}{q:SI}{rs:List HM.Row}{rest b0:Int}{P:SI}
theorem ZP (W:Wl q rs rest b0)(nd:(keysS P).Nodup)(ns:List Int)(k:Nat){d1 d2 v:D}{w:Str}{x9 x10 x11 x12 x13 x14:Option En}{H:D}{us:List D}
  (p1:yq [.val (.scr ns),.val (.int (6+(k:Int))),.val (.lst [.int 30,.int 53,.int 8,.int 4,.int 8])]=some (.acc us)) (ht:yQ [.val (.int b0),.val (.lst us)]=some (.acc [d1,d2]))
  (hd:xy C [.bor #[6],.val H,.val (.int b0),.dbo (kv P),.val (.lst [d1,d2])]=some (.val (.tup [.str w,v]))) {r:Option Fl}
  (hk:(sIf (gNot (gt (gCall (len? 2 yz) frzO (nCons (gn 4) (nCons (gn 9) nNil))))) (sIf (gb' (g2 (fEq true) (gr 12) (gc (.str "number")))) (sRet (gc (.bl false))) sNext) (tailB C)) (lE ns q rs rest b0 H P #[29] (some (.val (.lst [d1,d2]))) (some (.acc [])) (some (.dct none [])) (some (.val (.str w))) (some (.val v)) x14)=r) :
  vY C (lE ns q rs rest b0 H P #[29] x9 x10 x11 x12 x13 x14)=r:=by
 have hl:=W.q5.len
 have hT:q.length<=TOP:=zM #[1]
 have eqq:=VC (neg:=true) (xs:=q) (ys:=q) W.q5.ok W.q5.ok
 have eqd:=U1 nd
 have ak:=Vk P
 have t5:5<=TOP:=by decide
 unfold vY
 refine wg (ρ':=lE ns q rs rest b0 H P #[29] (some (.val (.lst [d1,d2]))) x10 x11 x12 x13 x14) (by simp[lE,p1,ht,t5]) ?_
 refine wg (ρ':=lE ns q rs rest b0 H P #[29] (some (.val (.lst [d1,d2]))) (some (.acc #[6])) x11 x12 x13 x14) (by simp[lE,hT]) ?_
 refine wg (ρ':=lE ns q rs rest b0 H P #[29] (some (.val (.lst [d1,d2]))) (some (.acc #[6])) (some (.dct none (kv P))) x12 x13 x14) (by simp[lE]) ?_
 refine wg (ρ':=lE ns q rs rest b0 H P #[29] (some (.val (.lst [d1,d2]))) (some (.acc #[6])) (some (.dct none (kv P))) (some (.val (.str w))) (some (.val v)) x14) (by simp[lE,hd,asgD,z7]) ?_
 refine V1 (uh (by simp[lE,eqq]) (by simp[lE,ak,eqd])) ?_
 refine wg (ρ':=lE ns q rs rest b0 H P #[29] (some (.val (.lst [d1,d2]))) (some (.acc [])) (some (.dct none (kv P))) (some (.val (.str w))) (some (.val v)) x14) (by simp[lE,mClear]) ?_
 refine wg (ρ':=lE ns q rs rest b0 H P #[29] (some (.val (.lst [d1,d2]))) (some (.acc [])) (some (.dct none [])) (some (.val (.str w))) (some (.val v)) x14) (by simp[lE,sClrD]) ?_
 exact hk
theorem zd4 (hC:UC C)(W:Wl q rs rest b0)(nd:(keysS P).Nodup)(ns:List Int)(k:Nat)(x9 x10 x11 x12 x13 x14:Option En) :
  ∃y9 y10 y11 y12 y13 y14:Option En,vY C (lE ns q rs rest b0 (hoursD #[5] rest (krows rest rs)) P #[29] x9 x10 x11 x12 x13 x14)
   = some (.next (lE ns q rs rest b0 (hoursD #[5] rest (krows rest rs)) P #[29] y9 y10 y11 y12 y13 y14)):=by
 have hl:=W.q5.len
 obtain⟨us,r1,p1⟩:=wX ns (6+k) [30,53,8,4,8] (by simp) (by simp)
 obtain⟨near,long,odd,other,kind,rfl,h1,h2⟩:=rng5 r1
 obtain⟨d1,d2,k1,k2,et⟩:=Re (b0:=b0) (near:=near) (long:=long) (odd:=odd) (other:=other) h1 h2
 have hk:((6+k:Nat):Int)=6+(k:Int):=by omega
 rw[hk] at p1
 simp only[List.map_cons,List.map_nil] at p1
 have hklen:(krows rest rs).length<=90:=Nat.le_trans (Z6 rest rs) (by have:=W.fit.len;omega)
 rcases zgk (b0:=b0) k1 k2 with hb | ⟨f,L,rfl,rfl,hb⟩
 ·have e1:=zel (C:=C) (H:=hoursD #[5] rest (krows rest rs)) (P:=P) (.inr rfl) (GA (q:=q) (.inr rfl) (zb8 k1 k2 hb))
  have e2:=za2 k1 k2 hb
  refine⟨some (.val (.lst [d1,d2])),some (.acc []),some (.dct none []),some (.val (.str "number")),some (.val .non),x14,ZP W nd ns k p1 et e1 ?_⟩
  have eqn:=vh (neg:=true) Vi Vi
  simp[lE,e2,eqn]
 ·have e2:=zaj hb
  have h0:0<=f:=by have:=W.b0;have:=hb.lo;omega
  cases hu:bareR f L (krows rest rs) 0 with
  |some u=>
   obtain⟨⟨u1,u2,u3⟩,ed⟩:=Gq (P:=P) W hb hu
   have e1:=Jd (.inr rfl) (VX (C:=C) hb (.inr rfl) (RL (P:=P) (q:=q) (b0:=b0) (rest:=rest) #[1] (.inr rfl) hu))
   refine⟨some (.val (.lst [.int f,.int L])),some (.acc []),some (.dct none []),some (.val (.str "good")),some (.val (nrD C q (hoursD #[5] rest (krows rest rs)) b0 u)),some (.val (.tup [.str "no counter",.int u])),ZP W nd ns k p1 et e1 ?_⟩
   rw[kX,show (gNot (gt (gCall (len? 2 yz) frzO (nCons (gn 4) (nCons (gn 9) nNil))))) _=some false from by simp[lE,e2]]
   refine WM (z:=false) (w := "no counter") _ rfl ed (zgj hC rfl) (by rw[zd3];rfl) (zgm hC rfl) rfl (by rw[vh uL vR];simp[zb0]) (RY hC W.pos (by have:=hb.lo;omega) u3 rfl rfl) ?_
   exact Jk (ks:=krows rest rs) (bs:=sideW rs rest 1 0) h0 hb.le (w := "no counter") rfl uL (by simp) (λ_ _ _ _=>RT hC rfl) W.pos W.wd.sd
  |none=>
   have W':=W.wdW hb hu
   obtain⟨out,R⟩:=W'.rn C
   have es:=ZR (P:=P) W' R (.inr rfl)
   have e1:=Jd (.inr rfl) (VX (C:=C) hb (.inr rfl) (RJ (.inr rfl) W.pos hklen W.fit.lo W.fit.hi hb hu es))
   have ed:=zag W hb hu (GT (P:=P) W' R)
   have ho:OkO (late (endsS [] out) P q):=KZ W'
   have hh:=λρ h7 hk=>R9 (P:=P) (ρ:=ρ) (k:=13) (k':=7) hC W' R ho h7 hk
   have heq:=Q3 (neg:=true) ho ho R.ok
   refine⟨some (.val (.lst [.int f,.int L])),some (.acc []),some (.dct none []),some (.val (.str "good")),some (.val (vD C q (hoursD #[5] rest (lessR rest f L (krows rest rs))) b0 out (late (endsS [] out) P q))),some (.val (dueD (late (endsS [] out) P q) out)),ZP W nd ns k p1 et e1 ?_⟩
   rw[kX,show (gNot (gt (gCall (len? 2 yz) frzO (nCons (gn 4) (nCons (gn 9) nNil))))) _=some false from by simp[lE,e2]]
   have key:∀o,OkO o->fItem (dueD o out) (.int 0)=some (.str (if o.isNone=true then "granted" else "late"))/\fEq false (.str (if o.isNone=true then ("granted" : Str) else "late")) (.str "granted")=some (.bl o.isNone)/\Ok (if o.isNone=true then ("granted" : Str) else "late")/\¬((if o.isNone=true then ("granted" : Str) else "late") = "no counter"):=λo _=>by
    cases o with
    |none=>exact⟨rfl,by rw[show (if (none:Option (Str×Int×Int)).isNone=true then ("granted" : Str) else "late") = "granted" from rfl,vh vR vR];simp,vR,zgw⟩
    |some o=>obtain⟨n,p,e⟩:=o;exact⟨rfl,by rw[show (if (some (n,p,e)).isNone=true then ("granted" : Str) else "late") = "late" from rfl,vh uC vR];simp[Gw],uC,zd9⟩
   obtain⟨q1,q2,q3,q4⟩:=key _ ho
   refine WM (z:=(late (endsS [] out) P q).isNone) (w:=if (late (endsS [] out) P q).isNone=true then "granted" else "late") _ rfl ed (zao hC R.w R.len rfl) (by rw[heq];simp) (RK hC rfl) q1 q2 (by rw[hh _ rfl rfl];simp) ?_
   exact Jk (ks:=lessR rest f L (krows rest rs)) (bs:=sideW rs rest f L) h0 hb.le q1 q3 (by rw[if_neg q4]) (λ_ _ _ _=>zea hC rfl) W'.hok.pos W'.sd
theorem Wj (hC:UC C)(W:Wl q rs rest b0)(nd:(keysS P).Nodup)(ns:List Int):∀(ks:List Nat) (x8 x9 x10 x11 x12 x13 x14:Option En),∃y8 y9 y10 y11 y12 y13 y14:Option En,
  forD (.name 8) (vY C) (ks.map λ(k:Nat)=>D.int (6+(k:Int))) (lE ns q rs rest b0 (hoursD #[5] rest (krows rest rs)) P x8 x9 x10 x11 x12 x13 x14)
   = some (.next (lE ns q rs rest b0 (hoursD #[5] rest (krows rest rs)) P y8 y9 y10 y11 y12 y13 y14))
 | [],x8,x9,x10,x11,x12,x13,x14=>⟨x8,x9,x10,x11,x12,x13,x14,by simp⟩
 |k::ks,x8,x9,x10,x11,x12,x13,x14=>by
  obtain⟨z9,z10,z11,z12,z13,z14,e⟩:=zd4 hC W nd ns k x9 x10 x11 x12 x13 x14
  obtain⟨y8,y9,y10,y11,y12,y13,y14,p⟩:=Wj hC W nd ns ks #[29] z9 z10 z11 z12 z13 z14
  refine⟨y8,y9,y10,y11,y12,y13,y14,?_⟩
  rw[<-p,List.map_cons,xX]
  show (vY C (lE ns q rs rest b0 (hoursD #[5] rest (krows rest rs)) P #[29] x9 x10 x11 x12 x13 x14)).bind _=_
  rw[e];rfl
end
theorem zgo (C:Str->Addr)(h1:C "Granted" ≠ C "Late") (h2:C "Granted" ≠ C "NoRoom") (h3:C "Late" ≠ C "NoRoom") (ns:List Int) (hl:ns.length<=63):Wc C [.val (.scr ns)]=some (.val (.bl true)):=by
 obtain⟨q,rs,rest,b0,g1,g2',g3,g4,g5,ew⟩:=G2 ns
 have F:Fit rs rest:=⟨λr hr=>⟨⟨(g2' r hr).1.1,by have:=(g2' r hr).1.2;omega⟩,(g2' r hr).2⟩,by omega,g4.1,by omega⟩
 have W:Wl q rs rest b0:=⟨g1,F,g5.1⟩
 obtain⟨out,R⟩:=W.wd.rn C
 obtain⟨P,nd,hlP,eP⟩:=Uo ns 5 W.wd R
 obtain⟨n,hn⟩:∃n:Nat,(min (ns.length:Int) 40 - 6).toNat=n:=⟨_,rfl⟩
 obtain⟨y8,y9,y10,y11,y12,y13,y14,p⟩:=Wj ⟨h1,h2,h3⟩ W nd ns (List.range n) none none none none none none none
 have hb:(-BIG<=(6:Int)/\(6:Int)<=BIG)/\-BIG<=min (ns.length:Int) 40/\min (ns.length:Int) 40<=BIG:=by simp only[BIG];omega
 have hr:rngD 6 n=(List.range n).map λ(k:Nat)=>D.int (6+(k:Int)):=kH 6 n
 have ei:=Jp C (rs:=rs) (rest:=rest) F.good F.len F.lo F.hi F.pos
 have t4:4<=TOP:=by decide
 have hTr:rs.length<=TOP:=zM #[1]
 rw[<-hr] at p
 simp only[sideW,lE,hoursD] at p
 simp only[sideW] at eP
 simp only[Int.cast_ofNat_Int] at eP
 simp[Wc,mir,stE,q9,Ze,ew,asgD,z7,t4,hb,hn,ei,hTr,eP,dctO,p]
inductive Sim (a dx C:Addr):Option Fl->Option Fl->Prop
 |none:Sim a dx C none none
 |next (fs:List Str) (ds:List D) (l:EnvD):Sim a dx C (some (.next (some (.oac a dx C fs ds)::l))) (some (.next (some (.oac 0 0 C fs ds)::l)))
section
variable {a dx C:Addr}{s t:SD}{g:EnvD->Option D}{f:Str}
def Alike (a dx C:Addr)(s:SD):Prop:=∀fs ds l,Sim a dx C (s (some (.oac a dx C fs ds)::l)) (s (some (.oac 0 0 C fs ds)::l))
theorem ym (hg:∀o o' l,g (o::l)=g (o'::l)):Alike a dx C (sFldD 0 C f g):=λfs ds l=>by
 have e:=hg (some (.oac a dx C fs ds)) (some (.oac 0 0 C fs ds)) l
 unfold sFldD
 simp only[List.getElem?_cons_zero,e]
 cases g (some (.oac 0 0 C fs ds)::l) with
 |none=>simp;exact .none
 |some d=>
  by_cases h:fs.length < 900
  ·simp[h];exact .next _ _ _
  ·simp[h];exact .none
theorem y4 (h1:Alike a dx C s)(h2:Alike a dx C t):Alike a dx C (sSeq s t):=λfs ds l=>by
 have e:=h1 fs ds l
 show Sim a dx C (thenB (s _) t) (thenB (s _) t)
 generalize s (some (.oac a dx C fs ds)::l)=u at *
 generalize s (some (.oac 0 0 C fs ds)::l)=v at *
 cases e with
 |none=>exact .none
 |next fs' ds' l'=>exact h2 fs' ds' l'
theorem Vf {n:Nat}{mi:Addr->Addr->List En->Option #[22]}{gs:EnvD->Option (List En)}(hm:∀xs,mi a dx xs=mi 0 0 xs)(hg:∀o o' l,gs (o::l)=gs (o'::l)):Alike a dx C (sBase 0 C n mi gs):=λfs ds l=>by
 have e:=hg (some (.oac a dx C fs ds)) (some (.oac 0 0 C fs ds)) l
 unfold sBase
 simp only[List.getElem?_cons_zero,e]
 cases fs with
 |cons=>exact .none
 |nil=>
  cases ds with
  |cons=>exact .none
  |nil=>
   simp only[if_true]
   cases gs (some (.oac 0 0 C [] [])::l) with
   |none=>exact .none
   |some xs=>
    simp only[Option.bind_some,hm]
    by_cases h:xs.length=n
    ·simp only[h,if_true]
     cases mi 0 0 xs with
     |none=>exact .none
     |some r=>exact .next _ _ _
    ·simp only[h,if_false];exact .none
theorem qe (h:Alike a dx C s)(l:EnvD):outI a dx C (s (some (.oac a dx C [] [])::l))=outI 0 0 C (s (some (.oac 0 0 C [] [])::l)):=by
 have e:=h [] [] l
 generalize s (some (.oac a dx C [] [])::l)=u at *
 generalize s (some (.oac 0 0 C [] [])::l)=v at *
 cases e with
 |none=>rfl
 |next fs ds l'=>simp[outI,outJ]
end
theorem zcq (C:Str->Addr)(a dx:Addr)(xs:List En):mirI #[16] vv (qK C) a dx xs=wt C xs:=by
 unfold wt mirI stE
 exact qe (y4 (ym λo o' l=>by simp) (y4 (ym λo o' l=>by simp) (ym λo o' l=>by simp))) _
theorem zaf (C:Str->Addr)(a dx:Addr)(xs:List En):xr C a dx xs=xr C 0 0 xs:=by
 unfold xr mirI stE
 exact qe (y4 (ym λo o' l=>by simp) (y4 (ym λo o' l=>by simp) (ym λo o' l=>by simp))) _
theorem RE (C:Str->Addr)(a dx:Addr)(xs:List En):mirI (C "Late") qM (qY C) a dx xs=wb C xs:=by
 unfold wb mirI stE
 exact qe (y4 (Vf (zaf C a dx) λo o' l=>by simp) (y4 (ym λo o' l=>by simp) (y4 (ym λo o' l=>by simp) (y4 (ym λo o' l=>by simp) (ym λo o' l=>by simp))))) _
theorem zb5 (C:Str->Addr)(a dx:Addr)(xs:List En):xE C a dx xs=xE C 0 0 xs:=by
 unfold xE mirI stE
 exact qe (y4 (ym λo o' l=>by simp) (y4 (ym λo o' l=>by simp) (ym λo o' l=>by simp))) _
theorem zal (C:Str->Addr)(a dx:Addr)(xs:List En):mirI #[12] qR (ue C) a dx xs=w6 C xs:=by
 unfold w6 mirI stE
 exact qe (y4 (Vf (zb5 C a dx) λo o' l=>by simp) (ym λo o' l=>by simp)) _
end My
namespace My
open PySem PySem.Spec L2 L3 L4 L6 Dv
open PyProof.Rows hiding St
def spOut (K:PySem.W.Frag):Sp:=λvs H Q _=>∃(a:Addr) (ns:List Int),vs=[.ref a]/\SqL K H a (ns.map V.int)/\ns.length<=63/\∀H',Q (.bl true) H'
theorem zes {P:Program}{w:World}{K:PySem.W.Frag}{mg:Str->Option Value}{base:Heap}{k:Nat}{f:Addr}{fd:FuncData}{ps:List Str}{m:List En->Option En}(h:FnOk P w K mg base CX0 k f fd ps (pSp ⟨K,w⟩ 1 (len? 1 m)))
  (hm:∀ns:List Int,ns.length<=63->m [.val (.scr ns)]=some (.val (.bl true))):FnOk P w K mg base CX0 k f fd ps (spOut K) :=
 h.imp λvs H Q E ⟨a,ns,e,hs,hl,q⟩=>⟨H,[.val (.scr ns)],.val (.bl true),Same.refl _,rfl,by subst e;exact .cons ⟨a,rfl,hs⟩ .nil,hm ns hl,λv F' H' _ r=>by cases r;exact q H'⟩
theorem bd1 {fd:FuncData}{ps:List Str}(h:∀a0,bindArgs fd ⟨[a0],[]⟩=pure (ps.zip [a0])):∀us:List Value,us.length=1->bindArgs fd ⟨us,[]⟩=pure (ps.zip us)
 | [a0],_=>h a0
theorem bd2 {fd:FuncData}{ps:List Str}(h:∀a0 a1,bindArgs fd ⟨[a0,a1],[]⟩=pure (ps.zip [a0,a1])):∀us:List Value,us.length=2->bindArgs fd ⟨us,[]⟩=pure (ps.zip us)
 | [a0,a1],_=>h a0 a1
theorem bd3 {fd:FuncData}{ps:List Str}(h:∀a0 a1 a2,bindArgs fd ⟨[a0,a1,a2],[]⟩=pure (ps.zip [a0,a1,a2])):∀us:List Value,us.length=3->bindArgs fd ⟨us,[]⟩=pure (ps.zip us)
 | [a0,a1,a2],_=>h a0 a1 a2
theorem bd4 {fd:FuncData}{ps:List Str}(h:∀a0 a1 a2 a3,bindArgs fd ⟨[a0,a1,a2,a3],[]⟩=pure (ps.zip [a0,a1,a2,a3])):∀us:List Value,us.length=4->bindArgs fd ⟨us,[]⟩=pure (ps.zip us)
 | [a0,a1,a2,a3],_=>h a0 a1 a2 a3
theorem bd5 {fd:FuncData}{ps:List Str}(h:∀a0 a1 a2 a3 a4,bindArgs fd ⟨[a0,a1,a2,a3,a4],[]⟩=pure (ps.zip [a0,a1,a2,a3,a4])):∀us:List Value,us.length=5->bindArgs fd ⟨us,[]⟩=pure (ps.zip us)
 | [a0,a1,a2,a3,a4],_=>h a0 a1 a2 a3 a4
theorem bd6 {fd:FuncData}{ps:List Str}(h:∀a0 a1 a2 a3 a4 a5,bindArgs fd ⟨[a0,a1,a2,a3,a4,a5],[]⟩=pure (ps.zip [a0,a1,a2,a3,a4,a5])):∀us:List Value,us.length=6->bindArgs fd ⟨us,[]⟩=pure (ps.zip us)
 | [a0,a1,a2,a3,a4,a5],_=>h a0 a1 a2 a3 a4 a5
theorem bd8 {fd:FuncData}{ps:List Str}(h:∀a0 a1 a2 a3 a4 a5 a6 a7,bindArgs fd ⟨[a0,a1,a2,a3,a4,a5,a6,a7],[]⟩=pure (ps.zip [a0,a1,a2,a3,a4,a5,a6,a7])):∀us:List Value,us.length=8->bindArgs fd ⟨us,[]⟩=pure (ps.zip us)
 | [a0,a1,a2,a3,a4,a5,a6,a7],_=>h a0 a1 a2 a3 a4 a5 a6 a7
theorem uD {K:PySem.W.Frag}{a b:Addr}(h:kitOne K (.ref a) (.ref b)=some false):a≠b:=λe=>by subst e;rw[KR] at h;cases h
set_option maxHeartbeats 0 in
theorem all_mk {l:PySem.W.OpenLaw}{w:World}{K:PySem.W.Frag}{h:Heap}{mg:Str->Option Value}{fa:Addr}(X:K.In h)(G:h.Ns mainGlobals mg)(hfa:mg "law" = some (.ref fa))
  {C_Hours C_Granted C_Late C_NoRoom C_Verdict:Addr}
  {f0:Addr} {od0 an0:Option Addr} {sl0:Array #[8]} {oc0 kV0 dc0 pm0 cd0 ct0:Value}
  {f1:Addr} {od1 an1:Option Addr} {sl1:Array #[8]} {oc1 kV1 dc1 pm1 cd1 ct1:Value}
  {f2:Addr} {od2 an2:Option Addr} {sl2:Array #[8]} {oc2 kV2 dc2 pm2 cd2 ct2:Value}
  {f3:Addr} {od3 an3:Option Addr} {sl3:Array #[8]} {oc3 kV3 dc3 pm3 cd3 ct3:Value}
  {f4:Addr} {od4 an4:Option Addr} {sl4:Array #[8]} {oc4 kV4 dc4 pm4 cd4 ct4:Value}
  {f5:Addr} {od5 an5:Option Addr} {sl5:Array #[8]} {oc5 kV5 dc5 pm5 cd5 ct5:Value}
  {f6:Addr} {od6 an6:Option Addr} {sl6:Array #[8]} {oc6 kV6 dc6 pm6 cd6 ct6:Value}
  {f7:Addr} {od7 an7:Option Addr} {sl7:Array #[8]} {oc7 kV7 dc7 pm7 cd7 ct7:Value}
  {f8:Addr} {od8 an8:Option Addr} {sl8:Array #[8]} {oc8 kV8 dc8 pm8 cd8 ct8:Value}
  {f9:Addr} {od9 an9:Option Addr} {sl9:Array #[8]} {oc9 kV9 dc9 pm9 cd9 ct9:Value}
  {f10:Addr} {od10 an10:Option Addr} {sl10:Array #[8]} {oc10 kV10 dc10 pm10 cd10 ct10:Value}
  {f11:Addr} {od11 an11:Option Addr} {sl11:Array #[8]} {oc11 kV11 dc11 pm11 cd11 ct11:Value}
  {f12:Addr} {od12 an12:Option Addr} {sl12:Array #[8]} {oc12 kV12 dc12 pm12 cd12 ct12:Value}
  {f13:Addr} {od13 an13:Option Addr} {sl13:Array #[8]} {oc13 kV13 dc13 pm13 cd13 ct13:Value}
  {f14:Addr} {od14 an14:Option Addr} {sl14:Array #[8]} {oc14 kV14 dc14 pm14 cd14 ct14:Value}
  {f15:Addr} {od15 an15:Option Addr} {sl15:Array #[8]} {oc15 kV15 dc15 pm15 cd15 ct15:Value}
  {f16:Addr} {od16 an16:Option Addr} {sl16:Array #[8]} {oc16 kV16 dc16 pm16 cd16 ct16:Value}
  {td16:Addr} {ot16:Value} {ou16:Option Addr} {ow16:Array #[8]} {on16:Nat}
  {f17:Addr} {od17 an17:Option Addr} {sl17:Array #[8]} {oc17 kV17 dc17 pm17 cd17 ct17:Value}
  {f18:Addr} {od18 an18:Option Addr} {sl18:Array #[8]} {oc18 kV18 dc18 pm18 cd18 ct18:Value}
  {f19:Addr} {od19 an19:Option Addr} {sl19:Array #[8]} {oc19 kV19 dc19 pm19 cd19 ct19:Value}
  {f20:Addr} {od20 an20:Option Addr} {sl20:Array #[8]} {oc20 kV20 dc20 pm20 cd20 ct20:Value}
  {f21:Addr} {od21 an21:Option Addr} {sl21:Array #[8]} {oc21 kV21 dc21 pm21 cd21 ct21:Value}
  {f22:Addr} {od22 an22:Option Addr} {sl22:Array #[8]} {oc22 kV22 dc22 pm22 cd22 ct22:Value}
  {f23:Addr} {od23 an23:Option Addr} {sl23:Array #[8]} {oc23 kV23 dc23 pm23 cd23 ct23:Value}
  {f24:Addr} {od24 an24:Option Addr} {sl24:Array #[8]} {oc24 kV24 dc24 pm24 cd24 ct24:Value}
  {f25:Addr} {od25 an25:Option Addr} {sl25:Array #[8]} {oc25 kV25 dc25 pm25 cd25 ct25:Value}
  {f26:Addr} {od26 an26:Option Addr} {sl26:Array #[8]} {oc26 kV26 dc26 pm26 cd26 ct26:Value}
  {f27:Addr} {od27 an27:Option Addr} {sl27:Array #[8]} {oc27 kV27 dc27 pm27 cd27 ct27:Value}
  {f28:Addr} {od28 an28:Option Addr} {sl28:Array #[8]} {oc28 kV28 dc28 pm28 cd28 ct28:Value}
  {f29:Addr} {od29 an29:Option Addr} {sl29:Array #[8]} {oc29 kV29 dc29 pm29 cd29 ct29:Value}
  {f30:Addr} {od30 an30:Option Addr} {sl30:Array #[8]} {oc30 kV30 dc30 pm30 cd30 ct30:Value}
  {f31:Addr} {od31 an31:Option Addr} {sl31:Array #[8]} {oc31 kV31 dc31 pm31 cd31 ct31:Value}
  {f32:Addr} {od32 an32:Option Addr} {sl32:Array #[8]} {oc32 kV32 dc32 pm32 cd32 ct32:Value}
  {f33:Addr} {od33 an33:Option Addr} {sl33:Array #[8]} {oc33 kV33 dc33 pm33 cd33 ct33:Value}
  {f34:Addr} {od34 an34:Option Addr} {sl34:Array #[8]} {oc34 kV34 dc34 pm34 cd34 ct34:Value}
  {f35:Addr} {od35 an35:Option Addr} {sl35:Array #[8]} {oc35 kV35 dc35 pm35 cd35 ct35:Value}
  {f36:Addr} {od36 an36:Option Addr} {sl36:Array #[8]} {oc36 kV36 dc36 pm36 cd36 ct36:Value}
  {f37:Addr} {od37 an37:Option Addr} {sl37:Array #[8]} {oc37 kV37 dc37 pm37 cd37 ct37:Value}
  {f38:Addr} {od38 an38:Option Addr} {sl38:Array #[8]} {oc38 kV38 dc38 pm38 cd38 ct38:Value}
  {f39:Addr} {od39 an39:Option Addr} {sl39:Array #[8]} {oc39 kV39 dc39 pm39 cd39 ct39:Value}
  {f40:Addr} {od40 an40:Option Addr} {sl40:Array #[8]} {oc40 kV40 dc40 pm40 cd40 ct40:Value}
  {f41:Addr} {od41 an41:Option Addr} {sl41:Array #[8]} {oc41 kV41 dc41 pm41 cd41 ct41:Value}
  {f42:Addr} {od42 an42:Option Addr} {sl42:Array #[8]} {oc42 kV42 dc42 pm42 cd42 ct42:Value}
  {f43:Addr} {od43 an43:Option Addr} {sl43:Array #[8]} {oc43 kV43 dc43 pm43 cd43 ct43:Value}
  {f44:Addr} {od44 an44:Option Addr} {sl44:Array #[8]} {oc44 kV44 dc44 pm44 cd44 ct44:Value}
  {f45:Addr} {od45 an45:Option Addr} {sl45:Array #[8]} {oc45 kV45 dc45 pm45 cd45 ct45:Value}
  {f46:Addr} {od46 an46:Option Addr} {sl46:Array #[8]} {oc46 kV46 dc46 pm46 cd46 ct46:Value}
  {f47:Addr} {od47 an47:Option Addr} {sl47:Array #[8]} {oc47 kV47 dc47 pm47 cd47 ct47:Value}
  {f48:Addr} {od48 an48:Option Addr} {sl48:Array #[8]} {oc48 kV48 dc48 pm48 cd48 ct48:Value}
  {f49:Addr} {od49 an49:Option Addr} {sl49:Array #[8]} {oc49 kV49 dc49 pm49 cd49 ct49:Value}
  {f50:Addr} {od50 an50:Option Addr} {sl50:Array #[8]} {oc50 kV50 dc50 pm50 cd50 ct50:Value}
  {f51:Addr} {od51 an51:Option Addr} {sl51:Array #[8]} {oc51 kV51 dc51 pm51 cd51 ct51:Value}
  {f52:Addr} {od52 an52:Option Addr} {sl52:Array #[8]} {oc52 kV52 dc52 pm52 cd52 ct52:Value}
  {f53:Addr} {od53 an53:Option Addr} {sl53:Array #[8]} {oc53 kV53 dc53 pm53 cd53 ct53:Value}
  {f54:Addr} {od54 an54:Option Addr} {sl54:Array #[8]} {oc54 kV54 dc54 pm54 cd54 ct54:Value}
  {f55:Addr} {od55 an55:Option Addr} {sl55:Array #[8]} {oc55 kV55 dc55 pm55 cd55 ct55:Value}
  {f56:Addr} {od56 an56:Option Addr} {sl56:Array #[8]} {oc56 kV56 dc56 pm56 cd56 ct56:Value}
  {f57:Addr} {od57 an57:Option Addr} {sl57:Array #[8]} {oc57 kV57 dc57 pm57 cd57 ct57:Value}
  {f58:Addr} {od58 an58:Option Addr} {sl58:Array #[8]} {oc58 kV58 dc58 pm58 cd58 ct58:Value}
  {C_NoNumber C_HallError:Addr}
  {dd_NoNumber:Option Addr} {cd_NoNumber:ClassData} {k0_NoNumber k1_NoNumber k2_NoNumber k3_NoNumber k5_NoNumber:Option Value} {bm_NoNumber:List Value}
  {t_GREATEST_TURN:Tok}
  {t_MOST_BOOKED:Tok}
  {t_MOST_COUNTERS:Tok}
  {t_MOST_ROWS:Tok}
  {t_MOST_TURNS:Tok}
  (tt_Hours:nsIn K mainGlobals "Hours" = some (some (.ref C_Hours)))
  (tt_Granted:nsIn K mainGlobals "Granted" = some (some (.ref C_Granted)))
  (tt_Late:nsIn K mainGlobals "Late" = some (some (.ref C_Late)))
  (tt_NoRoom:nsIn K mainGlobals "NoRoom" = some (some (.ref C_NoRoom)))
  (tt_Verdict:nsIn K mainGlobals "Verdict" = some (some (.ref C_Verdict)))
  (a0:nsIn K mainGlobals "is_whole" = some (some (.ref f0)))
  (l0:K.lookup f0=some ⟨oc0,od0,.func (fnOf "is_whole" "is_whole" (zn vC) (zk vC) (zd vC) .none kV0 dc0 pm0 an0 cd0 ct0),sl0⟩)
  (c0:codeIn K cd0 "is_whole" = true)
  (k0:keepIn K (.ref f0)=true)
  (a1:nsIn K mainGlobals "is_number" = some (some (.ref f1)))
  (l1:K.lookup f1=some ⟨oc1,od1,.func (fnOf "is_number" "is_number" (zn wM) (zk wM) (zd wM) .none kV1 dc1 pm1 an1 cd1 ct1),sl1⟩)
  (c1:codeIn K cd1 "is_number" = true)
  (k1:keepIn K (.ref f1)=true)
  (a2:nsIn K mainGlobals "is_row" = some (some (.ref f2)))
  (l2:K.lookup f2=some ⟨oc2,od2,.func (fnOf "is_row" "is_row" (zn wP) (zk wP) (zd wP) .none kV2 dc2 pm2 an2 cd2 ct2),sl2⟩)
  (c2:codeIn K cd2 "is_row" = true)
  (k2:keepIn K (.ref f2)=true)
  (a3:nsIn K mainGlobals "check_hours" = some (some (.ref f3)))
  (l3:K.lookup f3=some ⟨oc3,od3,.func (fnOf "check_hours" "check_hours" (zn wn) (zk wn) (zd wn) .none kV3 dc3 pm3 an3 cd3 ct3),sl3⟩)
  (c3:codeIn K cd3 "check_hours" = true)
  (k3:keepIn K (.ref f3)=true)
  (a4:nsIn K mainGlobals "kept_rows" = some (some (.ref f4)))
  (l4:K.lookup f4=some ⟨oc4,od4,.func (fnOf "kept_rows" "kept_rows" (zn vy) (zk vy) (zd vy) .none kV4 dc4 pm4 an4 cd4 ct4),sl4⟩)
  (c4:codeIn K cd4 "kept_rows" = true)
  (k4:keepIn K (.ref f4)=true)
  (a5:nsIn K mainGlobals "spans_of" = some (some (.ref f5)))
  (l5:K.lookup f5=some ⟨oc5,od5,.func (fnOf "spans_of" "spans_of" (zn vk) (zk vk) (zd vk) .none kV5 dc5 pm5 an5 cd5 ct5),sl5⟩)
  (c5:codeIn K cd5 "spans_of" = true)
  (k5:keepIn K (.ref f5)=true)
  (a6:nsIn K mainGlobals "cut_rows" = some (some (.ref f6)))
  (l6:K.lookup f6=some ⟨oc6,od6,.func (fnOf "cut_rows" "cut_rows" (zn vA) (zk vA) (zd vA) .none kV6 dc6 pm6 an6 cd6 ct6),sl6⟩)
  (c6:codeIn K cd6 "cut_rows" = true)
  (k6:keepIn K (.ref f6)=true)
  (a7:findIn K (.ref C_Hours) "__init__" = some (some (.ref f7)))
  (i7:PySem.W.isFn K (.ref f7)=true)
  (l7:K.lookup f7=some ⟨oc7,od7,.func (fnOf "__init__" "Hours.__init__" (zn vt) (zk vt) (zd vt) .none kV7 dc7 pm7 an7 cd7 ct7),sl7⟩)
  (c7:codeIn K cd7 "Hours.__init__" = true)
  (k7:keepIn K (.ref f7)=true)
  (a8:findIn K (.ref C_Hours) "rows" = some (some (.ref f8)))
  (i8:PySem.W.isFn K (.ref f8)=true)
  (l8:K.lookup f8=some ⟨oc8,od8,.func (fnOf "rows" "Hours.rows" (zn wH) (zk wH) (zd wH) .none kV8 dc8 pm8 an8 cd8 ct8),sl8⟩)
  (c8:codeIn K cd8 "Hours.rows" = true)
  (k8:keepIn K (.ref f8)=true)
  (a9:findIn K (.ref C_Hours) "end" = some (some (.ref f9)))
  (i9:PySem.W.isFn K (.ref f9)=true)
  (l9:K.lookup f9=some ⟨oc9,od9,.func (fnOf "end" "Hours.end" (zn vU) (zk vU) (zd vU) .none kV9 dc9 pm9 an9 cd9 ct9),sl9⟩)
  (c9:codeIn K cd9 "Hours.end" = true)
  (k9:keepIn K (.ref f9)=true)
  (a10:findIn K (.ref C_Hours) "at" = some (some (.ref f10)))
  (i10:PySem.W.isFn K (.ref f10)=true)
  (l10:K.lookup f10=some ⟨oc10,od10,.func (fnOf "at" "Hours.at" (zn jo) (zk jo) (zd jo) .none kV10 dc10 pm10 an10 cd10 ct10),sl10⟩)
  (c10:codeIn K cd10 "Hours.at" = true)
  (k10:keepIn K (.ref f10)=true)
  (a11:findIn K (.ref C_Hours) "free" = some (some (.ref f11)))
  (i11:PySem.W.isFn K (.ref f11)=true)
  (l11:K.lookup f11=some ⟨oc11,od11,.func (fnOf "free" "Hours.free" (zn jj) (zk jj) (zd jj) .none kV11 dc11 pm11 an11 cd11 ct11),sl11⟩)
  (c11:codeIn K cd11 "Hours.free" = true)
  (k11:keepIn K (.ref f11)=true)
  (a12:findIn K (.ref C_Hours) "changed" = some (some (.ref f12)))
  (i12:PySem.W.isFn K (.ref f12)=true)
  (l12:K.lookup f12=some ⟨oc12,od12,.func (fnOf "changed" "Hours.changed" (zn wZ) (zk wZ) (zd wZ) .none kV12 dc12 pm12 an12 cd12 ct12),sl12⟩)
  (c12:codeIn K cd12 "Hours.changed" = true)
  (k12:keepIn K (.ref f12)=true)
  (a13:findIn K (.ref C_Hours) "less" = some (some (.ref f13)))
  (i13:PySem.W.isFn K (.ref f13)=true)
  (l13:K.lookup f13=some ⟨oc13,od13,.func (fnOf "less" "Hours.less" (zn j3) (zk j3) (zd j3) .none kV13 dc13 pm13 an13 cd13 ct13),sl13⟩)
  (c13:codeIn K cd13 "Hours.less" = true)
  (k13:keepIn K (.ref f13)=true)
  (a14:nsIn K mainGlobals "names_of" = some (some (.ref f14)))
  (l14:K.lookup f14=some ⟨oc14,od14,.func (fnOf "names_of" "names_of" (zn wL) (zk wL) (zd wL) .none kV14 dc14 pm14 an14 cd14 ct14),sl14⟩)
  (c14:codeIn K cd14 "names_of" = true)
  (k14:keepIn K (.ref f14)=true)
  (a15:nsIn K mainGlobals "turn_served" = some (some (.ref f15)))
  (l15:K.lookup f15=some ⟨oc15,od15,.func (fnOf "turn_served" "turn_served" (zn wG) (zk wG) (zd wG) .none kV15 dc15 pm15 an15 cd15 ct15),sl15⟩)
  (c15:codeIn K cd15 "turn_served" = true)
  (k15:keepIn K (.ref f15)=true)
  (a16:nsIn K mainGlobals "run_of" = some (some (.ref f16)))
  (l16:K.lookup f16=some ⟨oc16,od16,.func (fnOf "run_of" "run_of" (zn yV) (zk yV) (zd yV) (.ref td16) kV16 dc16 pm16 an16 cd16 ct16),sl16⟩)
  (t16:K.lookup td16=some ⟨ot16,ou16,.seq #[.none] on16,ow16⟩)
  (c16:codeIn K cd16 "run_of" = true)
  (k16:keepIn K (.ref f16)=true)
  (a17:nsIn K mainGlobals "ends_of" = some (some (.ref f17)))
  (l17:K.lookup f17=some ⟨oc17,od17,.func (fnOf "ends_of" "ends_of" (zn vZ) (zk vZ) (zd vZ) .none kV17 dc17 pm17 an17 cd17 ct17),sl17⟩)
  (c17:codeIn K cd17 "ends_of" = true)
  (k17:keepIn K (.ref f17)=true)
  (a18:findIn K (.ref C_Granted) "granted" = some (some (.ref f18)))
  (i18:PySem.W.isFn K (.ref f18)=true)
  (l18:K.lookup f18=some ⟨oc18,od18,.func (fnOf "granted" "Granted.granted" (zn vT) (zk vT) (zd vT) .none kV18 dc18 pm18 an18 cd18 ct18),sl18⟩)
  (c18:codeIn K cd18 "Granted.granted" = true)
  (k18:keepIn K (.ref f18)=true)
  (a19:findIn K (.ref C_Granted) "word" = some (some (.ref f19)))
  (i19:PySem.W.isFn K (.ref f19)=true)
  (l19:K.lookup f19=some ⟨oc19,od19,.func (fnOf "word" "Granted.word" (zn jg) (zk jg) (zd jg) .none kV19 dc19 pm19 an19 cd19 ct19),sl19⟩)
  (c19:codeIn K cd19 "Granted.word" = true)
  (k19:keepIn K (.ref f19)=true)
  (a20:findIn K (.ref C_Granted) "__init__" = some (some (.ref f20)))
  (i20:PySem.W.isFn K (.ref f20)=true)
  (l20:K.lookup f20=some ⟨oc20,od20,.func (fnOf "__init__" "Verdict.__init__" (zn jy) (zk jy) (zd jy) .none kV20 dc20 pm20 an20 cd20 ct20),sl20⟩)
  (c20:codeIn K cd20 "Verdict.__init__" = true)
  (k20:keepIn K (.ref f20)=true)
  (a21:findIn K (.ref C_Granted) "told" = some (some (.ref f21)))
  (i21:PySem.W.isFn K (.ref f21)=true)
  (l21:K.lookup f21=some ⟨oc21,od21,.func (fnOf "told" "Verdict.told" (zn vp) (zk vp) (zd vp) .none kV21 dc21 pm21 an21 cd21 ct21),sl21⟩)
  (c21:codeIn K cd21 "Verdict.told" = true)
  (k21:keepIn K (.ref f21)=true)
  (a22:findIn K (.ref C_NoRoom) "word" = some (some (.ref f22)))
  (i22:PySem.W.isFn K (.ref f22)=true)
  (l22:K.lookup f22=some ⟨oc22,od22,.func (fnOf "word" "NoRoom.word" (zn vj) (zk vj) (zd vj) .none kV22 dc22 pm22 an22 cd22 ct22),sl22⟩)
  (c22:codeIn K cd22 "NoRoom.word" = true)
  (k22:keepIn K (.ref f22)=true)
  (a23:findIn K (.ref C_NoRoom) "told" = some (some (.ref f23)))
  (i23:PySem.W.isFn K (.ref f23)=true)
  (l23:K.lookup f23=some ⟨oc23,od23,.func (fnOf "told" "NoRoom.told" (zn jq) (zk jq) (zd jq) .none kV23 dc23 pm23 an23 cd23 ct23),sl23⟩)
  (c23:codeIn K cd23 "NoRoom.told" = true)
  (k23:keepIn K (.ref f23)=true)
  (a24:findIn K (.ref C_NoRoom) "holds" = some (some (.ref f24)))
  (i24:PySem.W.isFn K (.ref f24)=true)
  (l24:K.lookup f24=some ⟨oc24,od24,.func (fnOf "holds" "NoRoom.holds" (zn vq) (zk vq) (zd vq) .none kV24 dc24 pm24 an24 cd24 ct24),sl24⟩)
  (c24:codeIn K cd24 "NoRoom.holds" = true)
  (k24:keepIn K (.ref f24)=true)
  (a25:findIn K (.ref C_NoRoom) "granted" = some (some (.ref f25)))
  (i25:PySem.W.isFn K (.ref f25)=true)
  (l25:K.lookup f25=some ⟨oc25,od25,.func (fnOf "granted" "Verdict.granted" (zn vx) (zk vx) (zd vx) .none kV25 dc25 pm25 an25 cd25 ct25),sl25⟩)
  (c25:codeIn K cd25 "Verdict.granted" = true)
  (k25:keepIn K (.ref f25)=true)
  (bs26:PySem.W.specialIn K (.ref C_Verdict) "__getattribute__" = some (some (.builtin "type.__getattribute__")))
  (br26:PySem.W.readsIn K C_Verdict (.type "type")=true)
  (bf26:PySem.W.findCls K (.ref C_Verdict) (.type "type") "__init__" = some (.val (.ref f26)))
  (l26:K.lookup f26=some ⟨oc26,od26,.func (fnOf "__init__" "Verdict.__init__" (zn jk) (zk jk) (zd jk) .none kV26 dc26 pm26 an26 cd26 ct26),sl26⟩)
  (c26:codeIn K cd26 "Verdict.__init__" = true)
  (k26:keepIn K (.ref f26)=true)
  (a27:findIn K (.ref C_NoRoom) "__init__" = some (some (.ref f27)))
  (i27:PySem.W.isFn K (.ref f27)=true)
  (l27:K.lookup f27=some ⟨oc27,od27,.func (fnOf "__init__" "NoRoom.__init__" (zn vK) (zk vK) (zd vK) .none kV27 dc27 pm27 an27 cd27 ct27),sl27⟩)
  (c27:codeIn K cd27 "NoRoom.__init__" = true)
  (k27:keepIn K (.ref f27)=true)
  (a28:findIn K (.ref C_Late) "word" = some (some (.ref f28)))
  (i28:PySem.W.isFn K (.ref f28)=true)
  (l28:K.lookup f28=some ⟨oc28,od28,.func (fnOf "word" "Late.word" (zn vM) (zk vM) (zd vM) .none kV28 dc28 pm28 an28 cd28 ct28),sl28⟩)
  (c28:codeIn K cd28 "Late.word" = true)
  (k28:keepIn K (.ref f28)=true)
  (a29:findIn K (.ref C_Late) "granted" = some (some (.ref f29)))
  (i29:PySem.W.isFn K (.ref f29)=true)
  (l29:K.lookup f29=some ⟨oc29,od29,.func (fnOf "granted" "Verdict.granted" (zn vE) (zk vE) (zd vE) .none kV29 dc29 pm29 an29 cd29 ct29),sl29⟩)
  (c29:codeIn K cd29 "Verdict.granted" = true)
  (k29:keepIn K (.ref f29)=true)
  (bs30:PySem.W.specialIn K (.ref C_Verdict) "__getattribute__" = some (some (.builtin "type.__getattribute__")))
  (br30:PySem.W.readsIn K C_Verdict (.type "type")=true)
  (bf30:PySem.W.findCls K (.ref C_Verdict) (.type "type") "__init__" = some (.val (.ref f30)))
  (l30:K.lookup f30=some ⟨oc30,od30,.func (fnOf "__init__" "Verdict.__init__" (zn vF) (zk vF) (zd vF) .none kV30 dc30 pm30 an30 cd30 ct30),sl30⟩)
  (c30:codeIn K cd30 "Verdict.__init__" = true)
  (k30:keepIn K (.ref f30)=true)
  (a31:nsIn K mainGlobals "own_rows" = some (some (.ref f31)))
  (l31:K.lookup f31=some ⟨oc31,od31,.func (fnOf "own_rows" "own_rows" (zn wK) (zk wK) (zd wK) .none kV31 dc31 pm31 an31 cd31 ct31),sl31⟩)
  (c31:codeIn K cd31 "own_rows" = true)
  (k31:keepIn K (.ref f31)=true)
  (a32:findIn K (.ref C_Late) "__init__" = some (some (.ref f32)))
  (i32:PySem.W.isFn K (.ref f32)=true)
  (l32:K.lookup f32=some ⟨oc32,od32,.func (fnOf "__init__" "Late.__init__" (zn jl) (zk jl) (zd jl) .none kV32 dc32 pm32 an32 cd32 ct32),sl32⟩)
  (c32:codeIn K cd32 "Late.__init__" = true)
  (k32:keepIn K (.ref f32)=true)
  (a33:findIn K (.ref C_Late) "told" = some (some (.ref f33)))
  (i33:PySem.W.isFn K (.ref f33)=true)
  (l33:K.lookup f33=some ⟨oc33,od33,.func (fnOf "told" "Late.told" (zn vd) (zk vd) (zd vd) .none kV33 dc33 pm33 an33 cd33 ct33),sl33⟩)
  (c33:codeIn K cd33 "Late.told" = true)
  (k33:keepIn K (.ref f33)=true)
  (a34:nsIn K mainGlobals "first_late" = some (some (.ref f34)))
  (l34:K.lookup f34=some ⟨oc34,od34,.func (fnOf "first_late" "first_late" (zn vw) (zk vw) (zd vw) .none kV34 dc34 pm34 an34 cd34 ct34),sl34⟩)
  (c34:codeIn K cd34 "first_late" = true)
  (k34:keepIn K (.ref f34)=true)
  (a35:nsIn K mainGlobals "settled" = some (some (.ref f35)))
  (l35:K.lookup f35=some ⟨oc35,od35,.func (fnOf "settled" "settled" (zn jt) (zk jt) (zd jt) .none kV35 dc35 pm35 an35 cd35 ct35),sl35⟩)
  (c35:codeIn K cd35 "settled" = true)
  (k35:keepIn K (.ref f35)=true)
  (a36:findIn K (.ref C_Granted) "holds" = some (some (.ref f36)))
  (i36:PySem.W.isFn K (.ref f36)=true)
  (l36:K.lookup f36=some ⟨oc36,od36,.func (fnOf "holds" "Granted.holds" (zn je) (zk je) (zd je) .none kV36 dc36 pm36 an36 cd36 ct36),sl36⟩)
  (c36:codeIn K cd36 "Granted.holds" = true)
  (k36:keepIn K (.ref f36)=true)
  (a37:findIn K (.ref C_Late) "holds" = some (some (.ref f37)))
  (i37:PySem.W.isFn K (.ref f37)=true)
  (l37:K.lookup f37=some ⟨oc37,od37,.func (fnOf "holds" "Late.holds" (zn jr) (zk jr) (zd jr) .none kV37 dc37 pm37 an37 cd37 ct37),sl37⟩)
  (c37:codeIn K cd37 "Late.holds" = true)
  (k37:keepIn K (.ref f37)=true)
  (a38:nsIn K mainGlobals "check_booked" = some (some (.ref f38)))
  (l38:K.lookup f38=some ⟨oc38,od38,.func (fnOf "check_booked" "check_booked" (zn wq) (zk wq) (zd wq) .none kV38 dc38 pm38 an38 cd38 ct38),sl38⟩)
  (c38:codeIn K cd38 "check_booked" = true)
  (k38:keepIn K (.ref f38)=true)
  (a39:nsIn K mainGlobals "settled_booking" = some (some (.ref f39)))
  (l39:K.lookup f39=some ⟨oc39,od39,.func (fnOf "settled_booking" "settled_booking" (zn j8) (zk j8) (zd j8) .none kV39 dc39 pm39 an39 cd39 ct39),sl39⟩)
  (c39:codeIn K cd39 "settled_booking" = true)
  (k39:keepIn K (.ref f39)=true)
  (a40:nsIn K mainGlobals "ask_booking" = some (some (.ref f40)))
  (l40:K.lookup f40=some ⟨oc40,od40,.func (fnOf "ask_booking" "ask_booking" (zn wD) (zk wD) (zd wD) .none kV40 dc40 pm40 an40 cd40 ct40),sl40⟩)
  (c40:codeIn K cd40 "ask_booking" = true)
  (k40:keepIn K (.ref f40)=true)
  (a41:nsIn K mainGlobals "_law_cell" = some (some (.ref f41)))
  (l41:K.lookup f41=some ⟨oc41,od41,.func (fnOf "_law_cell" "_law_cell" (zn vz) (zk vz) (zd vz) .none kV41 dc41 pm41 an41 cd41 ct41),sl41⟩)
  (c41:codeIn K cd41 "_law_cell" = true)
  (k41:keepIn K (.ref f41)=true)
  (a42:nsIn K mainGlobals "_law_stir" = some (some (.ref f42)))
  (l42:K.lookup f42=some ⟨oc42,od42,.func (fnOf "_law_stir" "_law_stir" (zn vL) (zk vL) (zd vL) .none kV42 dc42 pm42 an42 cd42 ct42),sl42⟩)
  (c42:codeIn K cd42 "_law_stir" = true)
  (k42:keepIn K (.ref f42)=true)
  (a43:nsIn K mainGlobals "_law_draw" = some (some (.ref f43)))
  (l43:K.lookup f43=some ⟨oc43,od43,.func (fnOf "_law_draw" "_law_draw" (zn j5) (zk j5) (zd j5) .none kV43 dc43 pm43 an43 cd43 ct43),sl43⟩)
  (c43:codeIn K cd43 "_law_draw" = true)
  (k43:keepIn K (.ref f43)=true)
  (a44:nsIn K mainGlobals "_law_name" = some (some (.ref f44)))
  (l44:K.lookup f44=some ⟨oc44,od44,.func (fnOf "_law_name" "_law_name" (zn jp) (zk jp) (zd jp) .none kV44 dc44 pm44 an44 cd44 ct44),sl44⟩)
  (c44:codeIn K cd44 "_law_name" = true)
  (k44:keepIn K (.ref f44)=true)
  (a45:nsIn K mainGlobals "_law_world" = some (some (.ref f45)))
  (l45:K.lookup f45=some ⟨oc45,od45,.func (fnOf "_law_world" "_law_world" (zn vn) (zk vn) (zd vn) .none kV45 dc45 pm45 an45 cd45 ct45),sl45⟩)
  (c45:codeIn K cd45 "_law_world" = true)
  (k45:keepIn K (.ref f45)=true)
  (a46:nsIn K mainGlobals "_law_at" = some (some (.ref f46)))
  (l46:K.lookup f46=some ⟨oc46,od46,.func (fnOf "_law_at" "_law_at" (zn ja) (zk ja) (zd ja) .none kV46 dc46 pm46 an46 cd46 ct46),sl46⟩)
  (c46:codeIn K cd46 "_law_at" = true)
  (k46:keepIn K (.ref f46)=true)
  (a47:nsIn K mainGlobals "_law_run" = some (some (.ref f47)))
  (l47:K.lookup f47=some ⟨oc47,od47,.func (fnOf "_law_run" "_law_run" (zn xJ) (zk xJ) (zd xJ) .none kV47 dc47 pm47 an47 cd47 ct47),sl47⟩)
  (c47:codeIn K cd47 "_law_run" = true)
  (k47:keepIn K (.ref f47)=true)
  (a48:nsIn K mainGlobals "_law_ends" = some (some (.ref f48)))
  (l48:K.lookup f48=some ⟨oc48,od48,.func (fnOf "_law_ends" "_law_ends" (zn jz) (zk jz) (zd jz) .none kV48 dc48 pm48 an48 cd48 ct48),sl48⟩)
  (c48:codeIn K cd48 "_law_ends" = true)
  (k48:keepIn K (.ref f48)=true)
  (a49:nsIn K mainGlobals "_law_verdict" = some (some (.ref f49)))
  (l49:K.lookup f49=some ⟨oc49,od49,.func (fnOf "_law_verdict" "_law_verdict" (zn vH) (zk vH) (zd vH) .none kV49 dc49 pm49 an49 cd49 ct49),sl49⟩)
  (c49:codeIn K cd49 "_law_verdict" = true)
  (k49:keepIn K (.ref f49)=true)
  (a50:nsIn K mainGlobals "_law_promises" = some (some (.ref f50)))
  (l50:K.lookup f50=some ⟨oc50,od50,.func (fnOf "_law_promises" "_law_promises" (zn jd) (zk jd) (zd jd) .none kV50 dc50 pm50 an50 cd50 ct50),sl50⟩)
  (c50:codeIn K cd50 "_law_promises" = true)
  (k50:keepIn K (.ref f50)=true)
  (a51:nsIn K mainGlobals "_law_is" = some (some (.ref f51)))
  (l51:K.lookup f51=some ⟨oc51,od51,.func (fnOf "_law_is" "_law_is" (zn j7) (zk j7) (zd j7) .none kV51 dc51 pm51 an51 cd51 ct51),sl51⟩)
  (c51:codeIn K cd51 "_law_is" = true)
  (k51:keepIn K (.ref f51)=true)
  (a52:nsIn K mainGlobals "_law_told" = some (some (.ref f52)))
  (l52:K.lookup f52=some ⟨oc52,od52,.func (fnOf "_law_told" "_law_told" (zn jb) (zk jb) (zd jb) .none kV52 dc52 pm52 an52 cd52 ct52),sl52⟩)
  (c52:codeIn K cd52 "_law_told" = true)
  (k52:keepIn K (.ref f52)=true)
  (a53:nsIn K mainGlobals "_law_number" = some (some (.ref f53)))
  (l53:K.lookup f53=some ⟨oc53,od53,.func (fnOf "_law_number" "_law_number" (zn ve) (zk ve) (zd ve) .none kV53 dc53 pm53 an53 cd53 ct53),sl53⟩)
  (c53:codeIn K cd53 "_law_number" = true)
  (k53:keepIn K (.ref f53)=true)
  (a54:nsIn K mainGlobals "_law_is_good" = some (some (.ref f54)))
  (l54:K.lookup f54=some ⟨oc54,od54,.func (fnOf "_law_is_good" "_law_is_good" (zn wU) (zk wU) (zd wU) .none kV54 dc54 pm54 an54 cd54 ct54),sl54⟩)
  (c54:codeIn K cd54 "_law_is_good" = true)
  (k54:keepIn K (.ref f54)=true)
  (a55:nsIn K mainGlobals "_law_due" = some (some (.ref f55)))
  (l55:K.lookup f55=some ⟨oc55,od55,.func (fnOf "_law_due" "_law_due" (zn wS) (zk wS) (zd wS) .none kV55 dc55 pm55 an55 cd55 ct55),sl55⟩)
  (c55:codeIn K cd55 "_law_due" = true)
  (k55:keepIn K (.ref f55)=true)
  (a56:nsIn K mainGlobals "_law_turns" = some (some (.ref f56)))
  (l56:K.lookup f56=some ⟨oc56,od56,.func (fnOf "_law_turns" "_law_turns" (zn vm) (zk vm) (zd vm) .none kV56 dc56 pm56 an56 cd56 ct56),sl56⟩)
  (c56:codeIn K cd56 "_law_turns" = true)
  (k56:keepIn K (.ref f56)=true)
  (a57:nsIn K mainGlobals "_law_hours" = some (some (.ref f57)))
  (l57:K.lookup f57=some ⟨oc57,od57,.func (fnOf "_law_hours" "_law_hours" (zn wV) (zk wV) (zd wV) .none kV57 dc57 pm57 an57 cd57 ct57),sl57⟩)
  (c57:codeIn K cd57 "_law_hours" = true)
  (k57:keepIn K (.ref f57)=true)
  (a58:nsIn K mainGlobals "law" = some (some (.ref f58)))
  (l58:K.lookup f58=some ⟨oc58,od58,.func (fnOf "law" "law" (zn yS) (zk yS) (zd yS) .none kV58 dc58 pm58 an58 cd58 ct58),sl58⟩)
  (c58:codeIn K cd58 "law" = true)
  (k58:keepIn K (.ref f58)=true)
  (pg_Hours:plainGet K C_Hours Str.empty=true)
  (hd_Hours:hasDictIn K C_Hours=true)
  (po_Hours:PySem.W.plainOver K C_Hours=true)
  (sa_Hours:findIn K (.ref C_Hours) "__setattr__" = some (some (.builtin "object.__setattr__")))
  (mk_Hours:PySem.W.makesIn K C_Hours=true)
  (kc_Hours:keepIn K (.ref C_Hours)=true)
  (pg_Granted:plainGet K C_Granted Str.empty=true)
  (hd_Granted:hasDictIn K C_Granted=true)
  (po_Granted:PySem.W.plainOver K C_Granted=true)
  (sa_Granted:findIn K (.ref C_Granted) "__setattr__" = some (some (.builtin "object.__setattr__")))
  (mk_Granted:PySem.W.makesIn K C_Granted=true)
  (kc_Granted:keepIn K (.ref C_Granted)=true)
  (pg_Late:plainGet K C_Late Str.empty=true)
  (hd_Late:hasDictIn K C_Late=true)
  (po_Late:PySem.W.plainOver K C_Late=true)
  (sa_Late:findIn K (.ref C_Late) "__setattr__" = some (some (.builtin "object.__setattr__")))
  (mk_Late:PySem.W.makesIn K C_Late=true)
  (kc_Late:keepIn K (.ref C_Late)=true)
  (pg_NoRoom:plainGet K C_NoRoom Str.empty=true)
  (hd_NoRoom:hasDictIn K C_NoRoom=true)
  (po_NoRoom:PySem.W.plainOver K C_NoRoom=true)
  (sa_NoRoom:findIn K (.ref C_NoRoom) "__setattr__" = some (some (.builtin "object.__setattr__")))
  (mk_NoRoom:PySem.W.makesIn K C_NoRoom=true)
  (kc_NoRoom:keepIn K (.ref C_NoRoom)=true)
  (tt_NoNumber:nsIn K mainGlobals "NoNumber" = some (some (.ref C_NoNumber)))
  (tt_HallError:nsIn K mainGlobals "HallError" = some (some (.ref C_HallError)))
  (be_NoNumber:subIn K (.ref C_NoNumber) (.type "BaseException")=some true)
  (cl_NoNumber:PySem.W.isClsIn K C_NoNumber=true)
  (ga_NoNumber:findIn K (.ref C_NoNumber) "__getattribute__" = some (some (.builtin "BaseException.__getattribute__")))
  (gt_NoNumber:findIn K (.ref C_NoNumber) "__getattr__" = some none)
  (cc_NoNumber:findIn K (.ref C_NoNumber) "__class__" = some (some (.builtin "object.__class__")))
  (xcg:PySem.W.specialIn K (.builtin "object.__class__") "__get__" = some (some (.builtin "getset_descriptor.__get__")))
  (xct:PySem.W.takesIn K (.builtin "object.__class__")=some true)
  (mo_NoNumber:PySem.W.mroIn K C_NoNumber (.type "object")=some true)
  (su_NoNumber_ValueError:subIn K (.ref C_NoNumber) (.type "ValueError")=some true)
  (xl_NoNumber:K.lookup C_NoNumber=some ⟨.type "type",dd_NoNumber,.cls cd_NoNumber,#[k0_NoNumber,k1_NoNumber,k2_NoNumber,k3_NoNumber,some (.builtin "ValueError.__new__"),k5_NoNumber]⟩)
  (xmr_NoNumber:cd_NoNumber.mro=.ref C_NoNumber::bm_NoNumber)
  (xdl_NoNumber:cd_NoNumber.hasDel=false)
  (xtl_NoNumber:PySem.W.tailIn K vB bm_NoNumber=true)
  (xok_NoNumber:PySem.W.nsOkIn K cd_NoNumber.ns=true)
  (xin_NoNumber:nsIn K cd_NoNumber.ns "__init__" = some none)
  (xkp_NoNumber:keepIn K (.ref C_NoNumber)=true)
  (sb_NoNumber_HallError:subIn K (.ref C_NoNumber) (.ref C_HallError)=some true)
  (nt_HallError:PySem.W.instIn K (.ref C_HallError) (.type "tuple")=some false)
  (cl_HallError:PySem.W.isClsIn K C_HallError=true)
  (be_HallError:subIn K (.ref C_HallError) (.type "BaseException")=some true)
  (sb_Granted_Granted:subIn K (.ref C_Granted) (.ref C_Granted)=some true)
  (cl_Late:PySem.W.isClsIn K C_Late=true)
  (ty_Late:PySem.W.typeIn K (.ref C_Late)=some (.type "type"))
  (sb_Granted_Late:subIn K (.ref C_Granted) (.ref C_Late)=some false)
  (cl_NoRoom:PySem.W.isClsIn K C_NoRoom=true)
  (ty_NoRoom:PySem.W.typeIn K (.ref C_NoRoom)=some (.type "type"))
  (sb_Granted_NoRoom:subIn K (.ref C_Granted) (.ref C_NoRoom)=some false)
  (sb_Late_Late:subIn K (.ref C_Late) (.ref C_Late)=some true)
  (sb_Late_NoRoom:subIn K (.ref C_Late) (.ref C_NoRoom)=some false)
  (n_Granted_begin:findIn K (.ref C_Granted) "begin" = some none)
  (n_Granted_hours:findIn K (.ref C_Granted) "hours" = some none)
  (n_Granted_queue:findIn K (.ref C_Granted) "queue" = some none)
  (n_Hours_kept_rest:findIn K (.ref C_Hours) "kept_rest" = some none)
  (n_Hours_spans:findIn K (.ref C_Hours) "spans" = some none)
  (n_Late_begin:findIn K (.ref C_Late) "begin" = some none)
  (n_Late_hours:findIn K (.ref C_Late) "hours" = some none)
  (n_Late_name:findIn K (.ref C_Late) "name" = some none)
  (n_Late_promised:findIn K (.ref C_Late) "promised" = some none)
  (n_Late_queue:findIn K (.ref C_Late) "queue" = some none)
  (n_Late_run:findIn K (.ref C_Late) "run" = some none)
  (n_Late_turn:findIn K (.ref C_Late) "turn" = some none)
  (n_NoRoom_begin:findIn K (.ref C_NoRoom) "begin" = some none)
  (n_NoRoom_hours:findIn K (.ref C_NoRoom) "hours" = some none)
  (n_NoRoom_queue:findIn K (.ref C_NoRoom) "queue" = some none)
  (n_NoRoom_turn:findIn K (.ref C_NoRoom) "turn" = some none)
  (b_ValueError:nsIn K mainGlobals "ValueError" = some none)
  (b_all:nsIn K mainGlobals "all" = some none)
  (b_bool:nsIn K mainGlobals "bool" = some none)
  (b_dict:nsIn K mainGlobals "dict" = some none)
  (b_enumerate:nsIn K mainGlobals "enumerate" = some none)
  (b_int:nsIn K mainGlobals "int" = some none)
  (b_isinstance:nsIn K mainGlobals "isinstance" = some none)
  (b_len:nsIn K mainGlobals "len" = some none)
  (b_list:nsIn K mainGlobals "list" = some none)
  (b_max:nsIn K mainGlobals "max" = some none)
  (b_min:nsIn K mainGlobals "min" = some none)
  (b_range:nsIn K mainGlobals "range" = some none)
  (b_tuple:nsIn K mainGlobals "tuple" = some none)
  (c_GREATEST_TURN:nsIn K mainGlobals "GREATEST_TURN" = some (some (.int 100000 t_GREATEST_TURN)))
  (c_MOST_BOOKED:nsIn K mainGlobals "MOST_BOOKED" = some (some (.int 50 t_MOST_BOOKED)))
  (c_MOST_COUNTERS:nsIn K mainGlobals "MOST_COUNTERS" = some (some (.int 8 t_MOST_COUNTERS)))
  (c_MOST_ROWS:nsIn K mainGlobals "MOST_ROWS" = some (some (.int 16 t_MOST_ROWS)))
  (c_MOST_TURNS:nsIn K mainGlobals "MOST_TURNS" = some (some (.int 100 t_MOST_TURNS)))
  : ∃fd:FuncData,(∀(s:Shared) (v:Value),BindsTo s fd ⟨[v],[]⟩ [("_law_script",v)])/\∀base:Heap,K.In base->base.Ns mainGlobals mg->FnOk l.prog w K mg base CX0 12 fa fd ["_law_script"] (spOut K):=by
 have e:=hfa.symm.trans (mg_of X G a58)
 cases e
 obtain⟨C,eC_Hours,eC_Granted,eC_Late,eC_NoRoom,eC_Verdict⟩:∃C:Str->Addr,C "Hours" = C_Hours/\C "Granted" = C_Granted/\C "Late" = C_Late/\C "NoRoom" = C_NoRoom/\C "Verdict" = C_Verdict:=⟨λs=>if s = "Hours" then C_Hours else if s = "Granted" then C_Granted else if s = "Late" then C_Late else if s = "NoRoom" then C_NoRoom else if s = "Verdict" then C_Verdict else 0,if_pos rfl,(if_neg #[13]).trans <| if_pos rfl,(if_neg #[13]).trans <| (if_neg #[13]).trans <| if_pos rfl,(if_neg #[13]).trans <| (if_neg #[13]).trans <| (if_neg #[13]).trans <| if_pos rfl,(if_neg #[13]).trans <| (if_neg #[13]).trans <| (if_neg #[13]).trans <| (if_neg #[13]).trans <| if_pos rfl⟩
 subst eC_Hours
 subst eC_Granted
 subst eC_Late
 subst eC_NoRoom
 subst eC_Verdict
 have T:Txt K mg C:=⟨⟨pg_Granted,hd_Granted,po_Granted,sa_Granted⟩,⟨pg_Hours,hd_Hours,po_Hours,sa_Hours⟩,⟨pg_Late,hd_Late,po_Late,sa_Late⟩,⟨pg_NoRoom,hd_NoRoom,po_NoRoom,sa_NoRoom⟩,ZY sb_Granted_Granted cl_Late ty_Late sb_Granted_Late,ZY sb_Granted_Granted cl_NoRoom ty_NoRoom sb_Granted_NoRoom,ZY sb_Late_Late cl_NoRoom ty_NoRoom sb_Late_NoRoom,mg_of X G tt_Verdict,n_Granted_begin,n_Granted_hours,n_Granted_queue,n_Hours_kept_rest,n_Hours_spans,n_Late_begin,n_Late_hours,n_Late_name,n_Late_promised,n_Late_queue,n_Late_run,n_Late_turn,n_NoRoom_begin,n_NoRoom_hours,n_NoRoom_queue,n_NoRoom_turn,PySem.W.mg_none_of X G b_ValueError,PySem.W.mg_none_of X G b_all,PySem.W.mg_none_of X G b_bool,PySem.W.mg_none_of X G b_dict,PySem.W.mg_none_of X G b_enumerate,PySem.W.mg_none_of X G b_int,PySem.W.mg_none_of X G b_isinstance,PySem.W.mg_none_of X G b_len,PySem.W.mg_none_of X G b_list,PySem.W.mg_none_of X G b_max,PySem.W.mg_none_of X G b_min,PySem.W.mg_none_of X G b_range,PySem.W.mg_none_of X G b_tuple,⟨_,mg_of X G c_GREATEST_TURN⟩,⟨_,mg_of X G c_MOST_BOOKED⟩,⟨_,mg_of X G c_MOST_COUNTERS⟩,⟨_,mg_of X G c_MOST_ROWS⟩,⟨_,mg_of X G c_MOST_TURNS⟩⟩
 have F0:=zp (st:=vC) l0 c0 k0
 have bb0:=F0.binds (ps:=["thing"]) λ_ _ _ _ _ _=>bd1 λ_=>rfl
 have F1:=zp (st:=wM) l1 c1 k1
 have bb1:=F1.binds (ps:=["thing","low","high"]) λ_ _ _ _ _ _=>bd3 λ_ _ _=>rfl
 have F2:=zp (st:=wP) l2 c2 k2
 have bb2:=F2.binds (ps:=["thing"]) λ_ _ _ _ _ _=>bd1 λ_=>rfl
 have F3:=zp (st:=wn) l3 c3 k3
 have bb3:=F3.binds (ps:=["rows","rest"]) λ_ _ _ _ _ _=>bd2 λ_ _=>rfl
 have F4:=zp (st:=vy) l4 c4 k4
 have bb4:=F4.binds (ps:=["rows","rest"]) λ_ _ _ _ _ _=>bd2 λ_ _=>rfl
 have F5:=zp (st:=vk) l5 c5 k5
 have bb5:=F5.binds (ps:=["rows"]) λ_ _ _ _ _ _=>bd1 λ_=>rfl
 have F6:=zp (st:=vA) l6 c6 k6
 have bb6:=F6.binds (ps:=["spans","first","last","change"]) λ_ _ _ _ _ _=>bd4 λ_ _ _ _=>rfl
 have F7:=zp (st:=vt) l7 c7 k7
 have bb7:=F7.binds (ps:=["self","rows","rest"]) λ_ _ _ _ _ _=>bd3 λ_ _ _=>rfl
 have F8:=zp (st:=wH) l8 c8 k8
 have bb8:=F8.binds (ps:=["self"]) λ_ _ _ _ _ _=>bd1 λ_=>rfl
 have F9:=zp (st:=vU) l9 c9 k9
 have bb9:=F9.binds (ps:=["self"]) λ_ _ _ _ _ _=>bd1 λ_=>rfl
 have F10:=zp (st:=jo) l10 c10 k10
 have bb10:=F10.binds (ps:=["self","turn"]) λ_ _ _ _ _ _=>bd2 λ_ _=>rfl
 have F11:=zp (st:=jj) l11 c11 k11
 have bb11:=F11.binds (ps:=["self","first","last"]) λ_ _ _ _ _ _=>bd3 λ_ _ _=>rfl
 have F12:=zp (st:=wZ) l12 c12 k12
 have bb12:=F12.binds (ps:=["self","first","last","change"]) λ_ _ _ _ _ _=>bd4 λ_ _ _ _=>rfl
 have F13:=zp (st:=j3) l13 c13 k13
 have bb13:=F13.binds (ps:=["self","first","last"]) λ_ _ _ _ _ _=>bd3 λ_ _ _=>rfl
 have F14:=zp (st:=wL) l14 c14 k14
 have bb14:=F14.binds (ps:=["queue"]) λ_ _ _ _ _ _=>bd1 λ_=>rfl
 have F15:=zp (st:=wG) l15 c15 k15
 have bb15:=F15.binds (ps:=["queue","many"]) λ_ _ _ _ _ _=>bd2 λ_ _=>rfl
 have F16:=zcg (st:=yV) l16 c16 k16
 have bb16:Binds K (fnOf "run_of" "run_of" (zn yV) (zk yV) (zd yV) (.ref td16) kV16 dc16 pm16 an16 cd16 ct16) ["queue","hours","begin","real"] [.none]:=λs us hK hl=>have hl':us.length=3:=(by simpa using hl);match us,hl' with | [_,_,_],_=>BindsTo.of_defaults rfl (hK _ _ t16) rfl rfl rfl
 have F17:=zp (st:=vZ) l17 c17 k17
 have bb17:=F17.binds (ps:=["rows"]) λ_ _ _ _ _ _=>bd1 λ_=>rfl
 have F18:=zp (st:=vT) l18 c18 k18
 have bb18:=F18.binds (ps:=["self"]) λ_ _ _ _ _ _=>bd1 λ_=>rfl
 have F19:=zp (st:=jg) l19 c19 k19
 have bb19:=F19.binds (ps:=["self"]) λ_ _ _ _ _ _=>bd1 λ_=>rfl
 have F20:=zp (st:=jy) l20 c20 k20
 have bb20:=F20.binds (ps:=["self","queue","hours","begin"]) λ_ _ _ _ _ _=>bd4 λ_ _ _ _=>rfl
 have F21:=zp (st:=vp) l21 c21 k21
 have bb21:=F21.binds (ps:=["self"]) λ_ _ _ _ _ _=>bd1 λ_=>rfl
 have F22:=zp (st:=vj) l22 c22 k22
 have bb22:=F22.binds (ps:=["self"]) λ_ _ _ _ _ _=>bd1 λ_=>rfl
 have F23:=zp (st:=jq) l23 c23 k23
 have bb23:=F23.binds (ps:=["self"]) λ_ _ _ _ _ _=>bd1 λ_=>rfl
 have F24:=zp (st:=vq) l24 c24 k24
 have bb24:=F24.binds (ps:=["self","promises"]) λ_ _ _ _ _ _=>bd2 λ_ _=>rfl
 have F25:=zp (st:=vx) l25 c25 k25
 have bb25:=F25.binds (ps:=["self"]) λ_ _ _ _ _ _=>bd1 λ_=>rfl
 have F26:=zp (st:=jk) l26 c26 k26
 have bb26:=F26.binds (ps:=["self","queue","hours","begin"]) λ_ _ _ _ _ _=>bd4 λ_ _ _ _=>rfl
 have F27:=zp (st:=vK) l27 c27 k27
 have bb27:=F27.binds (ps:=["self","queue","hours","begin","turn"]) λ_ _ _ _ _ _=>bd5 λ_ _ _ _ _=>rfl
 have F28:=zp (st:=vM) l28 c28 k28
 have bb28:=F28.binds (ps:=["self"]) λ_ _ _ _ _ _=>bd1 λ_=>rfl
 have F29:=zp (st:=vE) l29 c29 k29
 have bb29:=F29.binds (ps:=["self"]) λ_ _ _ _ _ _=>bd1 λ_=>rfl
 have F30:=zp (st:=vF) l30 c30 k30
 have bb30:=F30.binds (ps:=["self","queue","hours","begin"]) λ_ _ _ _ _ _=>bd4 λ_ _ _ _=>rfl
 have F31:=zp (st:=wK) l31 c31 k31
 have bb31:=F31.binds (ps:=["rows"]) λ_ _ _ _ _ _=>bd1 λ_=>rfl
 have F32:=zp (st:=jl) l32 c32 k32
 have bb32:=F32.binds (ps:=["self","queue","hours","begin","name","promised","turn","run"]) λ_ _ _ _ _ _=>bd8 λ_ _ _ _ _ _ _ _=>rfl
 have F33:=zp (st:=vd) l33 c33 k33
 have bb33:=F33.binds (ps:=["self"]) λ_ _ _ _ _ _=>bd1 λ_=>rfl
 have F34:=zp (st:=vw) l34 c34 k34
 have bb34:=F34.binds (ps:=["queue","ends","promises"]) λ_ _ _ _ _ _=>bd3 λ_ _ _=>rfl
 have F35:=zp (st:=jt) l35 c35 k35
 have bb35:=F35.binds (ps:=["queue","hours","begin","promises"]) λ_ _ _ _ _ _=>bd4 λ_ _ _ _=>rfl
 have F36:=zp (st:=je) l36 c36 k36
 have bb36:=F36.binds (ps:=["self","promises"]) λ_ _ _ _ _ _=>bd2 λ_ _=>rfl
 have F37:=zp (st:=jr) l37 c37 k37
 have bb37:=F37.binds (ps:=["self","promises"]) λ_ _ _ _ _ _=>bd2 λ_ _=>rfl
 have F38:=zp (st:=wq) l38 c38 k38
 have bb38:=F38.binds (ps:=["begin","first","last"]) λ_ _ _ _ _ _=>bd3 λ_ _ _=>rfl
 have F39:=zp (st:=j8) l39 c39 k39
 have bb39:=F39.binds (ps:=["queue","hours","begin","promises","first","last"]) λ_ _ _ _ _ _=>bd6 λ_ _ _ _ _ _=>rfl
 have F40:=zp (st:=wD) l40 c40 k40
 have bb40:=F40.binds (ps:=["queue","hours","begin","promises","first","last"]) λ_ _ _ _ _ _=>bd6 λ_ _ _ _ _ _=>rfl
 have F41:=zp (st:=vz) l41 c41 k41
 have bb41:=F41.binds (ps:=["_law_script","_law_k"]) λ_ _ _ _ _ _=>bd2 λ_ _=>rfl
 have F42:=zp (st:=vL) l42 c42 k42
 have bb42:=F42.binds (ps:=["_law_cell_here","_law_k"]) λ_ _ _ _ _ _=>bd2 λ_ _=>rfl
 have F43:=zp (st:=j5) l43 c43 k43
 have bb43:=F43.binds (ps:=["_law_script","_law_at_here","_law_bases"]) λ_ _ _ _ _ _=>bd3 λ_ _ _=>rfl
 have F44:=zp (st:=jp) l44 c44 k44
 have bb44:=F44.binds (ps:=["_law_cell_here","_law_k"]) λ_ _ _ _ _ _=>bd2 λ_ _=>rfl
 have F45:=zp (st:=vn) l45 c45 k45
 have bb45:=F45.binds (ps:=["_law_script"]) λ_ _ _ _ _ _=>bd1 λ_=>rfl
 have F46:=zp (st:=ja) l46 c46 k46
 have bb46:=F46.binds (ps:=["_law_side","_law_turn"]) λ_ _ _ _ _ _=>bd2 λ_ _=>rfl
 have F47:=zp (st:=xJ) l47 c47 k47
 have bb47:=F47.binds (ps:=["_law_queue","_law_side","_law_begin"]) λ_ _ _ _ _ _=>bd3 λ_ _ _=>rfl
 have F48:=zp (st:=jz) l48 c48 k48
 have bb48:=F48.binds (ps:=["_law_run_here"]) λ_ _ _ _ _ _=>bd1 λ_=>rfl
 have F49:=zp (st:=vH) l49 c49 k49
 have bb49:=F49.binds (ps:=["_law_queue","_law_side","_law_begin","_law_promises_here"]) λ_ _ _ _ _ _=>bd4 λ_ _ _ _=>rfl
 have F50:=zp (st:=jd) l50 c50 k50
 have bb50:=F50.binds (ps:=["_law_script","_law_at_here","_law_queue","_law_side","_law_begin"]) λ_ _ _ _ _ _=>bd5 λ_ _ _ _ _=>rfl
 have F51:=zp (st:=j7) l51 c51 k51
 have bb51:=F51.binds (ps:=["_law_found","_law_due_here"]) λ_ _ _ _ _ _=>bd2 λ_ _=>rfl
 have F52:=zp (st:=jb) l52 c52 k52
 have bb52:=F52.binds (ps:=["_law_queue","_law_hours_here","_law_begin","_law_promises_here","_law_turns_here"]) λ_ _ _ _ _ _=>bd5 λ_ _ _ _ _=>rfl
 have F53:=zp (st:=ve) l53 c53 k53
 have bb53:=F53.binds (ps:=["_law_thing","_law_low","_law_high"]) λ_ _ _ _ _ _=>bd3 λ_ _ _=>rfl
 have F54:=zp (st:=wU) l54 c54 k54
 have bb54:=F54.binds (ps:=["_law_begin","_law_turns_here"]) λ_ _ _ _ _ _=>bd2 λ_ _=>rfl
 have F55:=zp (st:=wS) l55 c55 k55
 have bb55:=F55.binds (ps:=["_law_queue","_law_side","_law_begin","_law_promises_here","_law_turns_here"]) λ_ _ _ _ _ _=>bd5 λ_ _ _ _ _=>rfl
 have F56:=zp (st:=vm) l56 c56 k56
 have bb56:=F56.binds (ps:=["_law_begin","_law_drawn"]) λ_ _ _ _ _ _=>bd2 λ_ _=>rfl
 have F57:=zp (st:=wV) l57 c57 k57
 have bb57:=F57.binds (ps:=["_law_found","_law_side","_law_turns_here","_law_due_here"]) λ_ _ _ _ _ _=>bd4 λ_ _ _ _=>rfl
 have F58:=zp (st:=yS) l58 c58 k58
 obtain⟨ca,e_NoNumber,e_HallError⟩:∃ca:Str->Addr,ca "NoNumber" = C_NoNumber/\ca "HallError" = C_HallError:=⟨λs=>if s = "NoNumber" then C_NoNumber else if s = "HallError" then C_HallError else 0,if_pos rfl,(if_neg #[13]).trans <| if_pos rfl⟩
 subst e_NoNumber
 subst e_HallError
 refine⟨fnOf "law" "law" (zn yS) (zk yS) (zd yS) .none kV58 dc58 pm58 an58 cd58 ct58,λs v=>.of_eq rfl,λbase _ _=>?_⟩
 have U:Exs l.prog w K mg base ca:=⟨⟨be_NoNumber,cl_NoNumber,ga_NoNumber,gt_NoNumber,cc_NoNumber,xcg,xct,mo_NoNumber⟩,mg_of X G tt_HallError,mg_of X G tt_NoNumber,zgb #[13] su_NoNumber_ValueError,⟨⟨dd_NoNumber,cd_NoNumber,k0_NoNumber,k1_NoNumber,k2_NoNumber,k3_NoNumber,k5_NoNumber,bm_NoNumber,xl_NoNumber,xmr_NoNumber,xdl_NoNumber,xtl_NoNumber,xok_NoNumber,xin_NoNumber⟩,xkp_NoNumber⟩,⟨sb_NoNumber_HallError,nt_HallError,cl_HallError,be_HallError⟩,KR⟩
 have Ha4:Fx l.prog w K mg base "is_whole" 1 1 yY:=⟨f0,_,_,zdg (P:=l.prog) (w:=w) (base:=base) T F0,mg_of X G a0,k0,bb0⟩
 have Ha2:Fx l.prog w K mg base "is_number" 2 3 zN:=⟨f1,_,_,zfa (P:=l.prog) (w:=w) (base:=base) T F1 Ha4,mg_of X G a1,k1,bb1⟩
 have Ha3:Fx l.prog w K mg base "is_row" 3 1 qv:=⟨f2,_,_,zc1 (P:=l.prog) (w:=w) (base:=base) T F2 Ha2,mg_of X G a2,k2,bb2⟩
 have Hay:Fx l.prog w K mg base "check_hours" 4 2 qx:=⟨f3,_,_,zcd (P:=l.prog) (w:=w) (base:=base) T F3 Ha2 Ha3,mg_of X G a3,k3,bb3⟩
 have Ha5:Fx l.prog w K mg base "kept_rows" 1 2 yU:=⟨f4,_,_,Us (P:=l.prog) (w:=w) (base:=base) T F4,mg_of X G a4,k4,bb4⟩
 have Hbs:Fx l.prog w K mg base "spans_of" 1 1 yP:=⟨f5,_,_,RO (P:=l.prog) (w:=w) (base:=base) T F5,mg_of X G a5,k5,bb5⟩
 have Haz:Fx l.prog w K mg base "cut_rows" 1 4 qy:=⟨f6,_,_,Gh (P:=l.prog) (w:=w) (base:=base) T F6,mg_of X G a6,k6,bb6⟩
 have Haf:Kx l.prog w K mg base #[5] "Hours" 5 2 (xw C):=⟨f7,_,_,_,zax (P:=l.prog) (w:=w) (base:=base) T F7 Hbs Ha5 Hay,⟨mk_Hours,a7,i7,kc_Hours⟩,mg_of X G tt_Hours,bb7,λa dx xs=>zek C a dx xs⟩
 have Hal:Mx l.prog w K mg base #[5] "rows" 1 1 (jA C):=⟨f8,_,_,Rc (P:=l.prog) (w:=w) (base:=base) T F8,⟨a8,i8,k8⟩,bb8⟩
 have Hai:Mx l.prog w K mg base #[5] "end" 1 1 (jw C):=⟨f9,_,_,zfu (P:=l.prog) (w:=w) (base:=base) T F9,⟨a9,i9,k9⟩,bb9⟩
 have Hag:Mx l.prog w K mg base #[5] "at" 1 2 (xj C):=⟨f10,_,_,zgd (P:=l.prog) (w:=w) (base:=base) T F10,⟨a10,i10,k10⟩,bb10⟩
 have Haj:Mx l.prog w K mg base #[5] "free" 1 3 (xY C):=⟨f11,_,_,za1 (P:=l.prog) (w:=w) (base:=base) T F11,⟨a11,i11,k11⟩,bb11⟩
 have Hah:Mx l.prog w K mg base #[5] "changed" 7 4 (qi C):=⟨f12,_,_,Go (P:=l.prog) (w:=w) (base:=base) T F12 Hbs Ha5 Haz Hai Hal Haf,⟨a12,i12,k12⟩,bb12⟩
 have Hak:Mx l.prog w K mg base #[5] "less" 8 3 (jZ C):=⟨f13,_,_,zaz (P:=l.prog) (w:=w) (base:=base) T F13 Hah Haj,⟨a13,i13,k13⟩,bb13⟩
 have Hbn:Fx l.prog w K mg base "names_of" 1 1 qm:=⟨f14,_,_,zgt (P:=l.prog) (w:=w) (base:=base) T F14,mg_of X G a14,k14,bb14⟩
 have Hbt:Fx l.prog w K mg base "turn_served" 2 2 xh:=⟨f15,_,_,zbt (P:=l.prog) (w:=w) (base:=base) T F15 Hbn,mg_of X G a15,k15,bb15⟩
 have Hbp:FxN l.prog w K mg base "run_of" 3 4 (wC C):=⟨f16,_,_,ze4 (P:=l.prog) (w:=w) (base:=base) T F16 Hbt Hag,mg_of X G a16,k16,bb16⟩
 have Ha0:Fx l.prog w K mg base "ends_of" 1 1 jH:=⟨f17,_,_,zgy (P:=l.prog) (w:=w) (base:=base) T F17,mg_of X G a17,k17,bb17⟩
 have Hab:Mx l.prog w K mg base #[16] "granted" 1 1 (y3 C):=⟨f18,_,_,zhp (P:=l.prog) (w:=w) (base:=base) T F18,⟨a18,i18,k18⟩,bb18⟩
 have Hae:Mx l.prog w K mg base #[16] "word" 1 1 (kQ C):=⟨f19,_,_,zfs (P:=l.prog) (w:=w) (base:=base) T F19,⟨a19,i19,k19⟩,bb19⟩
 have Haa:Kx l.prog w K mg base #[16] "Granted" 1 3 (wt C):=⟨f20,_,_,_,Rw (P:=l.prog) (w:=w) (base:=base) T F20,⟨mk_Granted,a20,i20,kc_Granted⟩,mg_of X G tt_Granted,bb20,λa dx xs=>zcq C a dx xs⟩
 have Had:Mx l.prog w K mg base #[16] "told" 2 1 (y6 C):=⟨f21,_,_,zbb (P:=l.prog) (w:=w) (base:=base) T F21 Hae,⟨a21,i21,k21⟩,bb21⟩
 have Hav:Mx l.prog w K mg base #[12] "word" 1 1 (uu C):=⟨f22,_,_,zev (P:=l.prog) (w:=w) (base:=base) T F22,⟨a22,i22,k22⟩,bb22⟩
 have Hau:Mx l.prog w K mg base #[12] "told" 2 1 (yA C):=⟨f23,_,_,zde (P:=l.prog) (w:=w) (base:=base) T F23 Hav,⟨a23,i23,k23⟩,bb23⟩
 have Hat:Mx l.prog w K mg base #[12] "holds" 2 2 (xf C):=⟨f24,_,_,zdt (P:=l.prog) (w:=w) (base:=base) T F24 Hag,⟨a24,i24,k24⟩,bb24⟩
 have Has:Mx l.prog w K mg base #[12] "granted" 1 1 (yF C):=⟨f25,_,_,zgh (P:=l.prog) (w:=w) (base:=base) T F25,⟨a25,i25,k25⟩,bb25⟩
 have b_NoRoom_Verdict:Bo l.prog w K mg base (C "Verdict") #[12] 1 3 (xE C):=⟨f26,_,_,⟨bs26,br26,bf26,rfl,k26⟩,zhe (P:=l.prog) (w:=w) (base:=base) T F26,bb26⟩
 have Har:Kx l.prog w K mg base #[12] "NoRoom" 2 4 (w6 C):=⟨f27,_,_,_,G9 (P:=l.prog) (w:=w) (base:=base) T F27 b_NoRoom_Verdict,⟨mk_NoRoom,a27,i27,kc_NoRoom⟩,mg_of X G tt_NoRoom,bb27,λa dx xs=>zal C a dx xs⟩
 have Haq:Mx l.prog w K mg base (C "Late") "word" 1 1 (uy C):=⟨f28,_,_,zak (P:=l.prog) (w:=w) (base:=base) T F28,⟨a28,i28,k28⟩,bb28⟩
 have Han:Mx l.prog w K mg base (C "Late") "granted" 1 1 (y7 C):=⟨f29,_,_,zfp (P:=l.prog) (w:=w) (base:=base) T F29,⟨a29,i29,k29⟩,bb29⟩
 have b_Late_Verdict:Bo l.prog w K mg base (C "Verdict") (C "Late") 1 3 (xr C):=⟨f30,_,_,⟨bs30,br30,bf30,rfl,k30⟩,RA (P:=l.prog) (w:=w) (base:=base) T F30,bb30⟩
 have Hbo:Fx l.prog w K mg base "own_rows" 1 1 wf:=⟨f31,_,_,Ra (P:=l.prog) (w:=w) (base:=base) T F31,mg_of X G a31,k31,bb31⟩
 have Ham:Kx l.prog w K mg base (C "Late") "Late" 2 7 (wb C):=⟨f32,_,_,_,zec (P:=l.prog) (w:=w) (base:=base) T F32 Hbo b_Late_Verdict,⟨mk_Late,a32,i32,kc_Late⟩,mg_of X G tt_Late,bb32,λa dx xs=>RE C a dx xs⟩
 have Hap:Mx l.prog w K mg base (C "Late") "told" 2 1 (yw C):=⟨f33,_,_,UA (P:=l.prog) (w:=w) (base:=base) T F33 Hbo Haq,⟨a33,i33,k33⟩,bb33⟩
 have Ha1:Fx l.prog w K mg base "first_late" 1 3 jc:=⟨f34,_,_,zda (P:=l.prog) (w:=w) (base:=base) T F34,mg_of X G a34,k34,bb34⟩
 have Hbq:Fx l.prog w K mg base "settled" 4 4 (yg C):=⟨f35,_,_,zbo (P:=l.prog) (w:=w) (base:=base) T F35 Ha1 Ha0 Hbp Haa Ham,mg_of X G a35,k35,bb35⟩
 have Hac:Mx l.prog w K mg base #[16] "holds" 5 2 (yN C):=⟨f36,_,_,Gz (P:=l.prog) (w:=w) (base:=base) T F36 Hbq Hab Han Has,⟨a36,i36,k36⟩,bb36⟩
 have Hao:Mx l.prog w K mg base (C "Late") "holds" 5 2 (yG C):=⟨f37,_,_,zf5 (P:=l.prog) (w:=w) (base:=base) T F37 Hbq Had Hap Hau,⟨a37,i37,k37⟩,bb37⟩
 have Hbv:Ry l.prog w K mg base ca "turn" "check_booked" 3 3 xV:=⟨f38,_,_,GH (P:=l.prog) (w:=w) (base:=base) T F38 U Ha2,mg_of X G a38,k38,bb38⟩
 have Hax:Fx l.prog w K mg base "check_booked" 3 3 yI:=⟨f38,_,_,zg0 (P:=l.prog) (w:=w) (base:=base) T F38 Ha2,mg_of X G a38,k38,bb38⟩
 have Hbr:Fx l.prog w K mg base "settled_booking" 9 6 (xz C):=⟨f39,_,_,zfz (P:=l.prog) (w:=w) (base:=base) T F39 Hbq Hak Haj Har,mg_of X G a39,k39,bb39⟩
 have Hbu:Ry l.prog w K mg base ca "turn" "ask_booking" 4 6 vX:=⟨f40,_,_,zb9 (P:=l.prog) (w:=w) (base:=base) T F40 U Hbv,mg_of X G a40,k40,bb40⟩
 have Haw:Fx l.prog w K mg base "ask_booking" 10 6 (xp C):=⟨f40,_,_,zex (P:=l.prog) (w:=w) (base:=base) T F40 Hbr Hax,mg_of X G a40,k40,bb40⟩
 have Ha7:Fx l.prog w K mg base "_law_cell" 1 2 xo:=⟨f41,_,_,zf2 (P:=l.prog) (w:=w) (base:=base) T F41,mg_of X G a41,k41,bb41⟩
 have Hbi:Fx l.prog w K mg base "_law_stir" 1 2 qj:=⟨f42,_,_,GI (P:=l.prog) (w:=w) (base:=base) T F42,mg_of X G a42,k42,bb42⟩
 have Ha8:Fx l.prog w K mg base "_law_draw" 2 3 yq:=⟨f43,_,_,zeq (P:=l.prog) (w:=w) (base:=base) T F43 Ha7 Hbi,mg_of X G a43,k43,bb43⟩
 have Hbe:Fx l.prog w K mg base "_law_name" 1 2 jC:=⟨f44,_,_,RQ (P:=l.prog) (w:=w) (base:=base) T F44,mg_of X G a44,k44,bb44⟩
 have Hbm:Fx l.prog w K mg base "_law_world" 3 1 qw:=⟨f45,_,_,zf9 (P:=l.prog) (w:=w) (base:=base) T F45 Hbe Ha7 Ha8,mg_of X G a45,k45,bb45⟩
 have Ha6:Fx l.prog w K mg base "_law_at" 1 2 zY:=⟨f46,_,_,zey (P:=l.prog) (w:=w) (base:=base) T F46,mg_of X G a46,k46,bb46⟩
 have Hbh:Fx l.prog w K mg base "_law_run" 2 3 xq:=⟨f47,_,_,zho (P:=l.prog) (w:=w) (base:=base) T F47 Ha6,mg_of X G a47,k47,bb47⟩
 have Hba:Fx l.prog w K mg base "_law_ends" 1 1 wA:=⟨f48,_,_,ze6 (P:=l.prog) (w:=w) (base:=base) T F48,mg_of X G a48,k48,bb48⟩
 have Hbl:Fx l.prog w K mg base "_law_verdict" 3 4 ww:=⟨f49,_,_,zer (P:=l.prog) (w:=w) (base:=base) T F49 Hba Hbh,mg_of X G a49,k49,bb49⟩
 have Hbg:Fx l.prog w K mg base "_law_promises" 3 5 jQ:=⟨f50,_,_,Ug (P:=l.prog) (w:=w) (base:=base) T F50 Ha8 Hba Hbh,mg_of X G a50,k50,bb50⟩
 have Hbc:Fx l.prog w K mg base "_law_is" 1 2 wW:=⟨f51,_,_,zc6 (P:=l.prog) (w:=w) (base:=base) T F51,mg_of X G a51,k51,bb51⟩
 have Hbj:Fx l.prog w K mg base "_law_told" 11 5 (xy C):=⟨f52,_,_,zhm (P:=l.prog) (w:=w) (base:=base) T F52 U Haw Hbu,mg_of X G a52,k52,bb52⟩
 have Hbf:Fx l.prog w K mg base "_law_number" 1 3 xl:=⟨f53,_,_,zab (P:=l.prog) (w:=w) (base:=base) T F53,mg_of X G a53,k53,bb53⟩
 have Hbd:Fx l.prog w K mg base "_law_is_good" 2 2 yz:=⟨f54,_,_,zcn (P:=l.prog) (w:=w) (base:=base) T F54 Hbf,mg_of X G a54,k54,bb54⟩
 have Ha9:Fx l.prog w K mg base "_law_due" 4 5 xk:=⟨f55,_,_,za3 (P:=l.prog) (w:=w) (base:=base) T F55 Hbl Ha6,mg_of X G a55,k55,bb55⟩
 have Hbk:Fx l.prog w K mg base "_law_turns" 1 2 yQ:=⟨f56,_,_,zef (P:=l.prog) (w:=w) (base:=base) T F56,mg_of X G a56,k56,bb56⟩
 have Hbb:Fx l.prog w K mg base "_law_hours" 2 4 (xR C):=⟨f57,_,_,zcy (P:=l.prog) (w:=w) (base:=base) T F57 Hag Ha6,mg_of X G a57,k57,bb57⟩
 exact zes (Rz (P:=l.prog) (w:=w) (base:=base) T F58 Hbd Hbb Hac Hao Hat Hbc Hab Han Has Had Hap Hau Ha9 Hbj Hbk Ha8 Hbg Hbm Haf) (λns hl=>zgo C (uD T.k0_Granted_Late) (uD T.k0_Granted_NoRoom) (uD T.k0_Late_NoRoom) ns hl)
theorem walk {l:PySem.W.OpenLaw}{q:Program}{loose:List Str}{XP:(Str->Option Value)->Heap->Prop}{YP:World->Heap->Prop}{d:DefRec}{K:Params->PySem.W.Frag}(hn:l.most=some 63)(hdf:d.params.defaults=[])
  (hY:∀(w:World) (h:Heap),YP w h->(K w.params).In h)
  (F:∀(w:World) (mg:Str->Option Value) (fa:Addr) (h:Heap),(K w.params).In h->h.Ns mainGlobals mg->mg d.name=some (.ref fa) ->
   ∃fd:FuncData,(∀(s:Shared) (u:Value),BindsTo s fd ⟨[u],[]⟩ [("_law_script",u)])/\∀base:Heap,(K w.params).In base->base.Ns mainGlobals mg->FnOk l.prog w (K w.params) mg base CX0 12 fa fd ["_law_script"] (spOut (K w.params))) :
  PySem.W.WalkO q loose XP YP l.row.toRowW d [] (λf vs=>PySem.call f vs) :=
 L2.walk_of (n:=63) (k:=12) (x := "_law_script") (CX:=λ_=>CX0) (sp:=λw=>spOut (K w.params)) hn #[7] hdf ⟨rfl,by decide,by decide⟩ hY F (λ_ _ a ns hl _ hS=>⟨a,ns,rfl,hS,hl,λ_=>rfl⟩) λ_ _ _ _ _ z=>z
end My
namespace PySem.W.Fast
def tw16683706161443820970:=()
def tw7950233339943922196:=()
def tw15575443703505659190:=()
def tw16093547871147338494:=()
def tw116958846664465172:=()
def tw15701115793272266848:=()
def tw4924290580036598991:=()
def tw6485493523688768229:=()
def tw1446305600335937771:=()
def tw6488555296218514312:=()
def tw1938957274455859222:=()
def tw322650718594326006:=()
def tw1934607334471857578:=()
def tw12698373402857875769:=()
def tw15517502351593615793:=()
def tw3149714410176351594:=()
def tw17080286279326158515:=()
def tw10118541013823555630:=()
def tw2752063082324087044:=()
def tw3321273077727906206:=()
def tw6952105264638261930:=()
def tw11357727204000413600:=()
def tw2857053746656915197:=()
def tw2890927677928004269:=()
def tw6376315097223725047:=()
def tw13064389562325823646:=()
def tw25997538466696853:=()
def tw17978448527612428664:=()
def tw8615851938024146705:=()
def tw17358535659556708801:=()
def tw3079730140079218410:=()
def tw2663228054666422493:=()
def tw2072121396910673253:=()
def tw2780187067689964352:=()
def tw7456251573938705100:=()
def tw6194261755063529367:=()
def tw10733875783346670023:=()
def tw17342159105435398526:=()
def tw5563794917138327951:=()
def tw3483254786591099669:=()
def tw8832345368502072845:=()
def tw3763267000587215718:=()
def tw854205539287367987:=()
def tw3836136661666818924:=()
def tw10696766557416888134:=()
def tw10020840252283999398:=()
def tw17622976031847950632:=()
def tw188517590862113215:=()
def tw12017061939964151107:=()
def tw42585150986157117:=()
def tw17794572246893448287:=()
def tw3183462257481681262:=()
def tw15991520531417447326:=()
def tw8143992076901751144:=()
def tw8659743439238200739:=()
def tw17533180068072835099:=()
def tw13174513979433902383:=()
def tw13415404684310396648:=()
def tw10280726854963271007:=()
def tw13690128792378592896:=()
def tw8934536827892065427:=()
def tw302420188650721166:=()
def tw7837609270900624091:=()
def tw7508913183343799156:=()
def tw10535378548993172059:=()
def tw2114473949288974129:=()
def tw11304448029470027904:=()
def tw6433684796327192855:=()
def tw1606146955793177734:=()
def tw14870797815777702458:=()
def tw10625666235606894437:=()
def tw9277663992124000359:=()
def tw12741583655036806381:=()
def tw263636837263763388:=()
def tw12551659600858487603:=()
def tw3844305646482977829:=()
def tw17126702244110157509:=()
def tw11644813655420966887:=()
def tw14989274255737382776:=()
def tw963493103814593756:=()
def tw14571327814733873398:=()
def tw6895422228841938016:=()
def tw11315927117852263417:=()
def tw11333952908423710096:=()
def tw16832876248553852088:=()
def tw13508885148549659239:=()
def tw10020937536921478654:=()
def tw11962223017776846725:=()
def tw478803892373030673:=()
def tw14237577859161419743:=()
def tw2841561114271225088:=()
def tw16345025142420301282:=()
def tw1006590083996653732:=()
def tw874368364933982180:=()
def tw10817754129858303814:=()
def tw1528208991522368711:=()
def tw1737410640856165735:=()
def tw7463464451390476712:=()
def tw1020240250484818825:=()
def tw5598543553057134314:=()
def tw9739058917368474538:=()
def tw16300031480741684875:=()
def tw8903656424104047501:=()
def tw4720247944425708878:=()
def tw10662539491156704046:=()
def tw13860567158201755823:=()
def tw4352689083873345905:=()
def tw14879740626961977299:=()
def tw7007656303150603540:=()
def tw6519053704227249269:=()
def tw11755802275283793366:=()
def tw16237814368234906871:=()
def tw4385638810099224249:=()
def tw16918221208653334842:=()
def tw6693870676494578458:=()
def tw9018078378622687707:=()
def tw13896820834696446332:=()
def tw4712714097449279484:=()
def tw17896485846955441597:=()
def tw10445065674537430238:=()
def tw10960282189598130335:=()
def tw2791768435462408735:=()
def tw12367581267937248031:=()
def tw14664265978373526260:=()
def tw14431371141294644661:=()
def tw4692295821821518065:=()
def tw15399937268196834962:=()
def tw14590228150078862635:=()
def tw10923484508872545620:=()
def tw3435483890098599611:=()
def tw13679827843465370016:=()
def tw2203361610143563596:=()
def tw433167792557657836:=()
def tw6093402065171507991:=()
def tw16637848075944065221:=()
def tw6713929621713131882:=()
def tw13530436104505155312:=()
def tw5500485248917858925:=()
def tw243925068779899148:=()
def tw4927431790777995341:=()
def tw3932735914915298719:=()
def tw3556985640140933532:=()
def tw14897105970884909431:=()
def tw18142895232680881470:=()
def tw6553238328993094141:=()
def tw845133084070317632:=()
def tw14056181441152315360:=()
def tw9590611771692751643:=()
def tw9787542033372250379:=()
def tw12433965529877241863:=()
def tw16212045649852206220:=()
def tw1439334269499208432:=()
def tw10145261907662435983:=()
def tw11219141855158432527:=()
def tw13773885121804996906:=()
def tw10561157652250638004:=()
def tw8275152668570623073:=()
def tw18217151616189024576:=()
def tw12077904172662700620:=()
def tw14700051525177503171:=()
def tw6544017342605752253:=()
def tw15447629889697626241:=()
def tw7894172768984208551:=()
def tw2256733545455929239:=()
def tw10349397455314630854:=()
def tw196479779166136646:=()
def tw3830102092436765832:=()
def tw13724282840482040425:=()
def tw3880037892211499836:=()
def tw13415513761577151804:=()
def tw10924015594370013415:=()
def tw13317388584174789694:=()
def tw4339501669985674796:=()
def tw8573054624223241052:=()
def tw11548858532700147362:=()
def tw4331618100839767479:=()
def tw12260449907330108097:=()
def tw14184572397008793105:=()
def tw9775469078909511283:=()
def tw5128975160936310380:=()
def tw13440996694234292114:=()
def tw17732244346013981092:=()
def tw8553275662032118718:=()
def tw14879668414004510421:=()
def tw121363970434103493:=()
def tw12900178202183160301:=()
def tw7283140301379113161:=()
def tw8271852215898974020:=()
def tw8374668374097725354:=()
def tw9891827879335641338:=()
def tw6449031569136253277:=()
def tw2422736681760001983:=()
def tw17523057957531855495:=()
def tw1112997264127363802:=()
def tw12002404933908375857:=()
def tw1529470999975306596:=()
def tw13649437959657655445:=()
def tw16730200280501151038:=()
def tw13225038847884219090:=()
def tw5520595462079447257:=()
def tw11357101629924283273:=()
def tw5065928248370242583:=()
def tw6340557707913037135:=()
def tw10420620629557948247:=()
def tw5820607679729062987:=()
def tw8909137285249828046:=()
def tw18114879704554096463:=()
end PySem.W.Fast
open PySem PySem.W PyProof.Rows
set_option maxRecDepth 100000 in
set_option maxHeartbeats 0 in
theorem PySem.Challenge.cw_latestturn_k52_bookings_holds : PySem.Challenge.rw_latestturn_k52_bookings.Holds := by
 w_on;o_law;k_head;(case hw=>w_witness2)
 k_fill
 refine My.walk (l:=PySem.Challenge.rw_latestturn_k52_bookings) rfl rfl (λw h Y=>PySem.W.kIn_of Y) ?F
 case F=>
  intro w mg fa h KX G hmg
  refine' My.all_mk KX G hmg ?tt_Hours ?tt_Granted ?tt_Late ?tt_NoRoom ?tt_Verdict ?a0 ?l0 ?c0 ?k0 ?a1 ?l1 ?c1 ?k1 ?a2 ?l2 ?c2 ?k2 ?a3 ?l3 ?c3 ?k3 ?a4 ?l4 ?c4 ?k4 ?a5 ?l5 ?c5 ?k5 ?a6 ?l6 ?c6 ?k6 ?a7 ?i7 ?l7 ?c7 ?k7 ?a8 ?i8 ?l8 ?c8 ?k8 ?a9 ?i9 ?l9 ?c9 ?k9 ?a10 ?i10 ?l10 ?c10 ?k10 ?a11 ?i11 ?l11 ?c11 ?k11 ?a12 ?i12 ?l12 ?c12 ?k12 ?a13 ?i13 ?l13 ?c13 ?k13 ?a14 ?l14 ?c14 ?k14 ?a15 ?l15 ?c15 ?k15 ?a16 ?l16 ?t16 ?c16 ?k16 ?a17 ?l17 ?c17 ?k17 ?a18 ?i18 ?l18 ?c18 ?k18 ?a19 ?i19 ?l19 ?c19 ?k19 ?a20 ?i20 ?l20 ?c20 ?k20 ?a21 ?i21 ?l21 ?c21 ?k21 ?a22 ?i22 ?l22 ?c22 ?k22 ?a23 ?i23 ?l23 ?c23 ?k23 ?a24 ?i24 ?l24 ?c24 ?k24 ?a25 ?i25 ?l25 ?c25 ?k25 ?bs26 ?br26 ?bf26 ?l26 ?c26 ?k26 ?a27 ?i27 ?l27 ?c27 ?k27 ?a28 ?i28 ?l28 ?c28 ?k28 ?a29 ?i29 ?l29 ?c29 ?k29 ?bs30 ?br30 ?bf30 ?l30 ?c30 ?k30 ?a31 ?l31 ?c31 ?k31 ?a32 ?i32 ?l32 ?c32 ?k32 ?a33 ?i33 ?l33 ?c33 ?k33 ?a34 ?l34 ?c34 ?k34 ?a35 ?l35 ?c35 ?k35 ?a36 ?i36 ?l36 ?c36 ?k36 ?a37 ?i37 ?l37 ?c37 ?k37 ?a38 ?l38 ?c38 ?k38 ?a39 ?l39 ?c39 ?k39 ?a40 ?l40 ?c40 ?k40 ?a41 ?l41 ?c41 ?k41 ?a42 ?l42 ?c42 ?k42 ?a43 ?l43 ?c43 ?k43 ?a44 ?l44 ?c44 ?k44 ?a45 ?l45 ?c45 ?k45 ?a46 ?l46 ?c46 ?k46 ?a47 ?l47 ?c47 ?k47 ?a48 ?l48 ?c48 ?k48 ?a49 ?l49 ?c49 ?k49 ?a50 ?l50 ?c50 ?k50 ?a51 ?l51 ?c51 ?k51 ?a52 ?l52 ?c52 ?k52 ?a53 ?l53 ?c53 ?k53 ?a54 ?l54 ?c54 ?k54 ?a55 ?l55 ?c55 ?k55 ?a56 ?l56 ?c56 ?k56 ?a57 ?l57 ?c57 ?k57 ?a58 ?l58 ?c58 ?k58 ?pg_Hours ?hd_Hours ?po_Hours ?sa_Hours ?mk_Hours ?kc_Hours ?pg_Granted ?hd_Granted ?po_Granted ?sa_Granted ?mk_Granted ?kc_Granted ?pg_Late ?hd_Late ?po_Late ?sa_Late ?mk_Late ?kc_Late ?pg_NoRoom ?hd_NoRoom ?po_NoRoom ?sa_NoRoom ?mk_NoRoom ?kc_NoRoom ?tt_NoNumber ?tt_HallError ?be_NoNumber ?cl_NoNumber ?ga_NoNumber ?gt_NoNumber ?cc_NoNumber ?xcg ?xct ?mo_NoNumber ?su_NoNumber_ValueError ?xl_NoNumber ?xmr_NoNumber ?xdl_NoNumber ?xtl_NoNumber ?xok_NoNumber ?xin_NoNumber ?xkp_NoNumber ?sb_NoNumber_HallError ?nt_HallError ?cl_HallError ?be_HallError ?sb_Granted_Granted ?cl_Late ?ty_Late ?sb_Granted_Late ?cl_NoRoom ?ty_NoRoom ?sb_Granted_NoRoom ?sb_Late_Late ?sb_Late_NoRoom ?n_Granted_begin ?n_Granted_hours ?n_Granted_queue ?n_Hours_kept_rest ?n_Hours_spans ?n_Late_begin ?n_Late_hours ?n_Late_name ?n_Late_promised ?n_Late_queue ?n_Late_run ?n_Late_turn ?n_NoRoom_begin ?n_NoRoom_hours ?n_NoRoom_queue ?n_NoRoom_turn ?b_ValueError ?b_all ?b_bool ?b_dict ?b_enumerate ?b_int ?b_isinstance ?b_len ?b_list ?b_max ?b_min ?b_range ?b_tuple ?c_GREATEST_TURN ?c_MOST_BOOKED ?c_MOST_COUNTERS ?c_MOST_ROWS ?c_MOST_TURNS
  (case tt_Hours=>k_is)
  (case tt_Granted=>k_is)
  (case tt_Late=>k_is)
  (case tt_NoRoom=>k_is)
  (case tt_Verdict=>k_is)
  (case a0=>k_is)
  (case l0=>k_is)
  (case c0=>k_is)
  (case k0=>k_is)
  (case a1=>k_is)
  (case l1=>k_is)
  (case c1=>k_is)
  (case k1=>k_is)
  (case a2=>k_is)
  (case l2=>k_is)
  (case c2=>k_is)
  (case k2=>k_is)
  (case a3=>k_is)
  (case l3=>k_is)
  (case c3=>k_is)
  (case k3=>k_is)
  (case a4=>k_is)
  (case l4=>k_is)
  (case c4=>k_is)
  (case k4=>k_is)
  (case a5=>k_is)
  (case l5=>k_is)
  (case c5=>k_is)
  (case k5=>k_is)
  (case a6=>k_is)
  (case l6=>k_is)
  (case c6=>k_is)
  (case k6=>k_is)
  (case a7=>k_is)
  (case i7=>k_is)
  (case l7=>k_is)
  (case c7=>k_is)
  (case k7=>k_is)
  (case a8=>k_is)
  (case i8=>k_is)
  (case l8=>k_is)
  (case c8=>k_is)
  (case k8=>k_is)
  (case a9=>k_is)
  (case i9=>k_is)
  (case l9=>k_is)
  (case c9=>k_is)
  (case k9=>k_is)
  (case a10=>k_is)
  (case i10=>k_is)
  (case l10=>k_is)
  (case c10=>k_is)
  (case k10=>k_is)
  (case a11=>k_is)
  (case i11=>k_is)
  (case l11=>k_is)
  (case c11=>k_is)
  (case k11=>k_is)
  (case a12=>k_is)
  (case i12=>k_is)
  (case l12=>k_is)
  (case c12=>k_is)
  (case k12=>k_is)
  (case a13=>k_is)
  (case i13=>k_is)
  (case l13=>k_is)
  (case c13=>k_is)
  (case k13=>k_is)
  (case a14=>k_is)
  (case l14=>k_is)
  (case c14=>k_is)
  (case k14=>k_is)
  (case a15=>k_is)
  (case l15=>k_is)
  (case c15=>k_is)
  (case k15=>k_is)
  (case a16=>k_is)
  (case l16=>k_is)
  (case t16=>k_is)
  (case c16=>k_is)
  (case k16=>k_is)
  (case a17=>k_is)
  (case l17=>k_is)
  (case c17=>k_is)
  (case k17=>k_is)
  (case a18=>k_is)
  (case i18=>k_is)
  (case l18=>k_is)
  (case c18=>k_is)
  (case k18=>k_is)
  (case a19=>k_is)
  (case i19=>k_is)
  (case l19=>k_is)
  (case c19=>k_is)
  (case k19=>k_is)
  (case a20=>k_is)
  (case i20=>k_is)
  (case l20=>k_is)
  (case c20=>k_is)
  (case k20=>k_is)
  (case a21=>k_is)
  (case i21=>k_is)
  (case l21=>k_is)
  (case c21=>k_is)
  (case k21=>k_is)
  (case a22=>k_is)
  (case i22=>k_is)
  (case l22=>k_is)
  (case c22=>k_is)
  (case k22=>k_is)
  (case a23=>k_is)
  (case i23=>k_is)
  (case l23=>k_is)
  (case c23=>k_is)
  (case k23=>k_is)
  (case a24=>k_is)
  (case i24=>k_is)
  (case l24=>k_is)
  (case c24=>k_is)
  (case k24=>k_is)
  (case a25=>k_is)
  (case i25=>k_is)
  (case l25=>k_is)
  (case c25=>k_is)
  (case k25=>k_is)
  (case bs26=>k_is)
  (case br26=>k_is)
  (case bf26=>k_is)
  (case l26=>k_is)
  (case c26=>k_is)
  (case k26=>k_is)
  (case a27=>k_is)
  (case i27=>k_is)
  (case l27=>k_is)
  (case c27=>k_is)
  (case k27=>k_is)
  (case a28=>k_is)
  (case i28=>k_is)
  (case l28=>k_is)
  (case c28=>k_is)
  (case k28=>k_is)
  (case a29=>k_is)
  (case i29=>k_is)
  (case l29=>k_is)
  (case c29=>k_is)
  (case k29=>k_is)
  (case bs30=>k_is)
  (case br30=>k_is)
  (case bf30=>k_is)
  (case l30=>k_is)
  (case c30=>k_is)
  (case k30=>k_is)
  (case a31=>k_is)
  (case l31=>k_is)
  (case c31=>k_is)
  (case k31=>k_is)
  (case a32=>k_is)
  (case i32=>k_is)
  (case l32=>k_is)
  (case c32=>k_is)
  (case k32=>k_is)
  (case a33=>k_is)
  (case i33=>k_is)
  (case l33=>k_is)
  (case c33=>k_is)
  (case k33=>k_is)
  (case a34=>k_is)
  (case l34=>k_is)
  (case c34=>k_is)
  (case k34=>k_is)
  (case a35=>k_is)
  (case l35=>k_is)
  (case c35=>k_is)
  (case k35=>k_is)
  (case a36=>k_is)
  (case i36=>k_is)
  (case l36=>k_is)
  (case c36=>k_is)
  (case k36=>k_is)
  (case a37=>k_is)
  (case i37=>k_is)
  (case l37=>k_is)
  (case c37=>k_is)
  (case k37=>k_is)
  (case a38=>k_is)
  (case l38=>k_is)
  (case c38=>k_is)
  (case k38=>k_is)
  (case a39=>k_is)
  (case l39=>k_is)
  (case c39=>k_is)
  (case k39=>k_is)
  (case a40=>k_is)
  (case l40=>k_is)
  (case c40=>k_is)
  (case k40=>k_is)
  (case a41=>k_is)
  (case l41=>k_is)
  (case c41=>k_is)
  (case k41=>k_is)
  (case a42=>k_is)
  (case l42=>k_is)
  (case c42=>k_is)
  (case k42=>k_is)
  (case a43=>k_is)
  (case l43=>k_is)
  (case c43=>k_is)
  (case k43=>k_is)
  (case a44=>k_is)
  (case l44=>k_is)
  (case c44=>k_is)
  (case k44=>k_is)
  (case a45=>k_is)
  (case l45=>k_is)
  (case c45=>k_is)
  (case k45=>k_is)
  (case a46=>k_is)
  (case l46=>k_is)
  (case c46=>k_is)
  (case k46=>k_is)
  (case a47=>k_is)
  (case l47=>k_is)
  (case c47=>k_is)
  (case k47=>k_is)
  (case a48=>k_is)
  (case l48=>k_is)
  (case c48=>k_is)
  (case k48=>k_is)
  (case a49=>k_is)
  (case l49=>k_is)
  (case c49=>k_is)
  (case k49=>k_is)
  (case a50=>k_is)
  (case l50=>k_is)
  (case c50=>k_is)
  (case k50=>k_is)
  (case a51=>k_is)
  (case l51=>k_is)
  (case c51=>k_is)
  (case k51=>k_is)
  (case a52=>k_is)
  (case l52=>k_is)
  (case c52=>k_is)
  (case k52=>k_is)
  (case a53=>k_is)
  (case l53=>k_is)
  (case c53=>k_is)
  (case k53=>k_is)
  (case a54=>k_is)
  (case l54=>k_is)
  (case c54=>k_is)
  (case k54=>k_is)
  (case a55=>k_is)
  (case l55=>k_is)
  (case c55=>k_is)
  (case k55=>k_is)
  (case a56=>k_is)
  (case l56=>k_is)
  (case c56=>k_is)
  (case k56=>k_is)
  (case a57=>k_is)
  (case l57=>k_is)
  (case c57=>k_is)
  (case k57=>k_is)
  (case a58=>k_is)
  (case l58=>k_is)
  (case c58=>k_is)
  (case k58=>k_is)
  (case pg_Hours=>k_is)
  (case hd_Hours=>k_is)
  (case po_Hours=>k_is)
  (case sa_Hours=>k_is)
  (case mk_Hours=>k_is)
  (case kc_Hours=>k_is)
  (case pg_Granted=>k_is)
  (case hd_Granted=>k_is)
  (case po_Granted=>k_is)
  (case sa_Granted=>k_is)
  (case mk_Granted=>k_is)
  (case kc_Granted=>k_is)
  (case pg_Late=>k_is)
  (case hd_Late=>k_is)
  (case po_Late=>k_is)
  (case sa_Late=>k_is)
  (case mk_Late=>k_is)
  (case kc_Late=>k_is)
  (case pg_NoRoom=>k_is)
  (case hd_NoRoom=>k_is)
  (case po_NoRoom=>k_is)
  (case sa_NoRoom=>k_is)
  (case mk_NoRoom=>k_is)
  (case kc_NoRoom=>k_is)
  (case tt_NoNumber=>k_is)
  (case tt_HallError=>k_is)
  (case be_NoNumber=>k_is)
  (case cl_NoNumber=>k_is)
  (case ga_NoNumber=>k_is)
  (case gt_NoNumber=>k_is)
  (case cc_NoNumber=>k_is)
  (case xcg=>k_is)
  (case xct=>k_is)
  (case mo_NoNumber=>k_is)
  (case su_NoNumber_ValueError=>k_is)
  (case xl_NoNumber=>k_is)
  (case xmr_NoNumber=>rfl)
  (case xdl_NoNumber=>rfl)
  (case xtl_NoNumber=>kernel_rfl)
  (case xok_NoNumber=>kernel_rfl)
  (case xin_NoNumber=>k_is)
  (case xkp_NoNumber=>k_is)
  (case sb_NoNumber_HallError=>k_is)
  (case nt_HallError=>k_is)
  (case cl_HallError=>k_is)
  (case be_HallError=>k_is)
  (case sb_Granted_Granted=>k_is)
  (case cl_Late=>k_is)
  (case ty_Late=>k_is)
  (case sb_Granted_Late=>k_is)
  (case cl_NoRoom=>k_is)
  (case ty_NoRoom=>k_is)
  (case sb_Granted_NoRoom=>k_is)
  (case sb_Late_Late=>k_is)
  (case sb_Late_NoRoom=>k_is)
  (case n_Granted_begin=>k_is)
  (case n_Granted_hours=>k_is)
  (case n_Granted_queue=>k_is)
  (case n_Hours_kept_rest=>k_is)
  (case n_Hours_spans=>k_is)
  (case n_Late_begin=>k_is)
  (case n_Late_hours=>k_is)
  (case n_Late_name=>k_is)
  (case n_Late_promised=>k_is)
  (case n_Late_queue=>k_is)
  (case n_Late_run=>k_is)
  (case n_Late_turn=>k_is)
  (case n_NoRoom_begin=>k_is)
  (case n_NoRoom_hours=>k_is)
  (case n_NoRoom_queue=>k_is)
  (case n_NoRoom_turn=>k_is)
  (case b_ValueError=>k_is)
  (case b_all=>k_is)
  (case b_bool=>k_is)
  (case b_dict=>k_is)
  (case b_enumerate=>k_is)
  (case b_int=>k_is)
  (case b_isinstance=>k_is)
  (case b_len=>k_is)
  (case b_list=>k_is)
  (case b_max=>k_is)
  (case b_min=>k_is)
  (case b_range=>k_is)
  (case b_tuple=>k_is)
  (case c_GREATEST_TURN=>k_is)
  (case c_MOST_BOOKED=>k_is)
  (case c_MOST_COUNTERS=>k_is)
  (case c_MOST_ROWS=>k_is)
  (case c_MOST_TURNS=>k_is)
#print axioms PySem.Challenge.cw_latestturn_k52_bookings_holds
end

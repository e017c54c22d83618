import PyProof.Rows.All
import Wide.All
import OpenK.AllK
import Wide.FinOn
import Lean
import PyProof.EqAt
import PyProof.EqKinds
import PyProof.TupleCall
import KE.KPairComp
import PyProof.SumWalkG
import PyProof.WalkInts
import PyProof.Rows.SortStr
import PyProof.Rows.SortWalk
import PyProof.NeKinds
import KE.KIntText
import PyProof.Rows.FStr
import PyProof.Rows.StrNews2
import PyProof.CallStr
import PyProof.StrLawsChain
import PyProof.Rows.StrClose3
import PySem.Challenge.RW_latestturn_k86_texts_refused
set_option Elab.async false
set_option linter.all false
set_option maxRecDepth 100000
set_option maxHeartbeats 4000000
noncomputable section
namespace L2
open PySem PySem.Spec PyProof.Rows
abbrev Key := Sum Int Str
def keyIs : Key -> Value -> Bool
  | .inl k, v => Value.isInt k v
  | .inr x, v => Value.isStrOf x v
def keyH (w : World) : Key -> Int
  | .inl k => hashInt k
  | .inr x => hashStr w x
theorem keyIs_shape : ∀ {k : Key} {v : Value}, keyIs k v = true -> (∃ i t, k = Sum.inl i /\ v = Value.int i t) ∨ (∃ x t, k = Sum.inr x /\ v = Value.str x t)
  | .inl i, v, h => by
    obtain ⟨t, e⟩ := Value.isInt_shape (k := i) (v := v) h
    exact .inl ⟨i, t, rfl, e⟩
  | .inr x, v, h => by
    obtain ⟨t, e⟩ := Value.isStrOf_shape (x := x) (v := v) h
    exact .inr ⟨x, t, rfl, e⟩
theorem key_ll (a b : Int) : decide ((Sum.inl a : Key) = Sum.inl b) = (a == b) := by
  by_cases e : a = b
  · subst e; simp
  · have h : ¬ (Sum.inl a : Key) = Sum.inl b := fun q => e (Sum.inl.inj q)
    rw [decide_eq_false h]
    exact (beq_eq_false_iff_ne.mpr e).symm
theorem key_rr (a b : Str) : decide ((Sum.inr a : Key) = Sum.inr b) = decide (a = b) := by
  by_cases e : a = b
  · subst e; simp
  · have h : ¬ (Sum.inr a : Key) = Sum.inr b := fun q => e (Sum.inr.inj q)
    rw [decide_eq_false h, decide_eq_false e]
theorem key_lr (a : Int) (b : Str) : decide ((Sum.inl a : Key) = Sum.inr b) = false := decide_eq_false (fun q => nomatch q)
theorem key_rl (a : Str) (b : Int) : decide ((Sum.inr a : Key) = Sum.inl b) = false := decide_eq_false (fun q => nomatch q)
def mixKind (prog : Program) (w : World) : PySem.KeyKind prog w Key where
  is := keyIs
  hash := keyH w
  inj := fun v a b ha hb => by
    rcases keyIs_shape ha with ⟨i, t, rfl, rfl⟩ | ⟨x, t, rfl, rfl⟩
    · rcases keyIs_shape hb with ⟨j, u, rfl, e⟩ | ⟨y, u, rfl, e⟩
      · injection e with e1 _; rw [e1]
      · exact nomatch e
    · rcases keyIs_shape hb with ⟨j, u, rfl, e⟩ | ⟨y, u, rfl, e⟩
      · exact nomatch e
      · injection e with e1 _; rw [e1]
  byValue := fun k v h => by
    rcases keyIs_shape h with ⟨i, t, rfl, rfl⟩ | ⟨x, t, rfl, rfl⟩ <;> rfl
  pyHash := fun hv h => by
    rcases keyIs_shape hv with ⟨i, t, rfl, rfl⟩ | ⟨x, t, rfl, rfl⟩
    · exact wpAny_pyHash_int h
    · exact wpAny_pyHash_str h
  eqBool := fun hu hv h => by
    rcases keyIs_shape hu with ⟨i, t, rfl, rfl⟩ | ⟨x, t, rfl, rfl⟩
    · rcases keyIs_shape hv with ⟨j, u, rfl, rfl⟩ | ⟨y, u, rfl, rfl⟩
      · rw [key_ll] at h; exact wpAny_eqBool_int h
      · rw [key_lr] at h; exact SeqAt.EqAt.int_str i t y u _ _ _ _ h
    · rcases keyIs_shape hv with ⟨j, u, rfl, rfl⟩ | ⟨y, u, rfl, rfl⟩
      · rw [key_rl] at h; exact SeqAt.EqAt.str_int x t j u _ _ _ _ h
      · rw [key_rr] at h; exact wpAny_eqBool_str h
  «strs» := fun k x t v h => by
    rcases keyIs_shape h with ⟨i, u, rfl, e⟩ | ⟨y, u, rfl, e⟩
    · exact nomatch e
    · injection e with e1 _
      subst e1
      cases v <;> rfl
inductive V where
  | non | bl (b : Bool) | int (i : Int) | str (x : Str) | byt (b : Array UInt8) | flt (b : UInt64) | ref (a : Addr) | ty (n : String)
  deriving DecidableEq
def RelV : V -> Value -> Prop
  | .non, u => u = Value.none
  | .bl b, u => u = Value.bool b
  | .int i, u => ∃ t, u = Value.int i t
  | .str x, u => ∃ t, u = Value.str x t
  | .byt b, u => ∃ t, u = Value.bytes b t
  | .flt b, u => ∃ t, u = Value.float b t
  | .ref a, u => u = Value.ref a
  | .ty n, u => u = Value.type n
abbrev Vals : List V -> List Value -> Prop := Paired RelV
theorem Vals.length {xs : List V} {us : List Value} (r : Vals xs us) : xs.length = us.length := Paired.length r
theorem Vals.get : ∀ {xs : List V} {us : List Value} {i : Nat} {x : V}, Vals xs us -> xs[i]? = some x -> ∃ u, us[i]? = some u /\ RelV x u
  | _, _, _, _, .nil, e => by simp at e
  | _, _, 0, _, .cons r _, e => by simp at e; subst e; exact ⟨_, rfl, r⟩
  | _, _, i + 1, x, .cons _ t, e => by
    obtain ⟨u, h1, h2⟩ := Vals.get (i := i) (x := x) t (by simpa using e)
    exact ⟨u, by simpa using h1, h2⟩
theorem Vals.set {x : V} {u : Value} (r : RelV x u) : ∀ {xs : List V} {us : List Value} (i : Nat), Vals xs us -> Vals (xs.set i x) (us.set i u)
  | _, _, _, .nil => .nil
  | _, _, 0, .cons _ t => .cons r t
  | _, _, i + 1, .cons q t => .cons q (Vals.set r i t)
theorem Vals.append : ∀ {xs ys : List V} {us ws : List Value}, Vals xs us -> Vals ys ws -> Vals (xs ++ ys) (us ++ ws)
  | _, _, _, _, .nil, s => s
  | _, _, _, _, .cons r t, s => .cons r (Vals.append t s)
theorem Vals.take : ∀ {xs : List V} {us : List Value} (n : Nat), Vals xs us -> Vals (xs.take n) (us.take n)
  | _, _, 0, _ => .nil
  | _, _, _ + 1, .nil => .nil
  | _, _, n + 1, .cons r t => .cons r (Vals.take n t)
theorem Vals.drop : ∀ {xs : List V} {us : List Value} (n : Nat), Vals xs us -> Vals (xs.drop n) (us.drop n)
  | _, _, 0, r => r
  | _, _, _ + 1, .nil => .nil
  | _, _, n + 1, .cons _ t => Vals.drop n t
def RelO : Option V -> Option Value -> Prop
  | some v, some u => RelV v u
  | none, none => True
  | _, _ => False
def KV {κ : Type} : List (κ × V) -> List (κ × Value) -> Prop := Paired fun (p : κ × V) (q : κ × Value) => p.1 = q.1 /\ RelV p.2 q.2
def kV : Key -> V
  | .inl i => .int i
  | .inr x => .str x
inductive HO where
    | lst (xs : List V)
    | tup (xs : List V)
    | dK (kvs : List (Key × V)) | dT (kvs : List (List Key × V))
    | set (S : Int -> Bool) (n : Nat)
    | ins (C dx : Addr) (fs : List (Str × V))
    | own (x : Addr)
    | xd (fs : List (Str × V))
    | met (f x : Addr)
    | rng (lo hi : Int)
    | frz (o : Obj) (u : HO)
    | tbl (ps : Array Value)
    | ext (φ : Heap -> Prop)
abbrev Hp := Addr -> Option HO
def upd (H : Hp) (a : Addr) (o : HO) : Hp := fun b => if b = a then some o else H b
theorem upd_same {H : Hp} {a : Addr} {o : HO} : upd H a o a = some o := by unfold upd; rw [if_pos rfl]
theorem upd_ne {H : Hp} {a b : Addr} {o : HO} (h : b ≠ a) : upd H a o b = H b := by unfold upd; rw [if_neg h]
theorem ne_of_none {H : Hp} {a b : Addr} {o : HO} (h : H a = some o) (h' : H b = none) : a ≠ b := by
  intro e; subst e; rw [h] at h'; cases h'
section
variable (P : Program) (w : World)
def ObjOk (H : Hp) (h : Heap) (a : Addr) : HO -> Prop
  | .lst xs => xs.length <= sizeLine /\ ∃ (its : List Value) (n : Nat), Vals xs its /\ h.get? a = some { cls := .type "list", data := .seq its.toArray n }
  | .tup xs => xs.length <= sizeLine /\ ∃ its : List Value, Vals xs its /\ IsTup h a its.toArray
  | .dK kvs => kvs.length <= sizeLine /\ (a == sysModules) = false /\ ∃ vs, KV kvs vs /\ h.DictOf (mixKind P w) a vs
  | .dT kvs => kvs.length <= sizeLine /\ (a == sysModules) = false /\ ∃ xs : List (List Key × Addr × Value),
      Paired (fun (p : List Key × V) (q : List Key × Addr × Value) => p.1 = q.1 /\ H q.2.1 = some (.tup (p.1.map kV)) /\ RelV p.2 q.2.2) kvs xs /\
      ∃ o es ep, h.get? a = some o /\ o.ExactDict /\ o.data = .dict es ep /\ es.toList = xs.map (entryOfKey (tupleKind (mixKind P w))) /\ (xs.map (·.1)).Nodup
  | .set S n => h.SetOf (intKind P w) a S n
  | .ins C dx fs => H dx = some (.own a) /\ fs.length <= 1000 /\ dx ≠ a /\ h.get? a = some (PySem.W.instObj C dx) /\
      ∃ mA, h.Ns1 dx mA /\ (∀ f, RelO (fs.lookup f) (mA f)) /\ PySem.Within mA (fs.map (·.1))
  | .own _ => ∃ o, h.get? a = some o
  | .xd fs => ∃ mA, h.Ns1 a mA /\ ∀ f, RelO (fs.lookup f) (mA f)
  | .rng lo hi => ∃ t u v, h.get? a = some { cls := .type "range", data := .fields #[.int lo t, .int hi u, .int 1 v] }
  | .frz o u => h.get? a = some o /\ ObjOk H h a u
  | .tbl ps => h.get? a = some { cls := .none, data := .fields ps }
  | .met f x => h.get? a = some (PySem.W.methodObj (.ref f) (.ref x))
  | .ext φ => φ h /\ (∃ o, h.get? a = some o) /\ ∀ h1 h2 : Heap, φ h1 -> (∀ o, h1.get? a = some o -> h2.get? a = some o) -> φ h2
def HOk (H : Hp) (h : Heap) : Prop := ∀ a o, H a = some o -> ObjOk P w H h a o
end
section
variable {P : Program} {w : World} {H H' : Hp} {h h' : Heap} {a : Addr} {o : HO}
theorem ObjOk.lt (x : ObjOk P w H h a o) : a < h.objs.size := by
  cases o with
  | lst xs => obtain ⟨_, _, _, _, e⟩ := x; exact Heap.lt_size e
  | tup xs => obtain ⟨_, _, _, p⟩ := x; exact p.lt
  | dK kvs => obtain ⟨_, _, _, _, o, _, _, e, _⟩ := x; exact Heap.lt_size e
  | dT kvs => obtain ⟨_, _, _, _, o, _, _, e, _⟩ := x; exact Heap.lt_size e
  | set S n => obtain ⟨o, _, _, _, e, _⟩ := x; exact Heap.lt_size e
  | ins C dx fs => obtain ⟨_, _, _, e, _⟩ := x; exact Heap.lt_size e
  | own y => obtain ⟨_, e⟩ := x; exact Heap.lt_size e
  | xd fs => obtain ⟨_, ⟨_, _, _, e, _⟩, _⟩ := x; exact Heap.lt_size e
  | rng lo hi => obtain ⟨_, _, _, e⟩ := x; exact Heap.lt_size e
  | frz ob u => obtain ⟨e, _⟩ := x; exact Heap.lt_size e
  | tbl ps => exact Heap.lt_size (show h.get? a = some _ from x)
  | met f y => exact Heap.lt_size (show h.get? a = some _ from x)
  | ext φ => obtain ⟨_, ⟨_, e⟩, _⟩ := x; exact Heap.lt_size e
theorem Paired.mapP {α β : Type} {F G : α -> β -> Prop} : ∀ {l₁ : List α} {l₂ : List β}, Paired F l₁ l₂ -> (∀ a b, F a b -> G a b) -> Paired G l₁ l₂
  | _, _, .nil, _ => .nil
  | _, _, .cons r t, f => .cons (f _ _ r) (Paired.mapP t f)
theorem ObjOk.stay (x : ObjOk P w H h a o) (k : ∀ b u, (b = a ∨ H b = some (.own a)) -> h.get? b = some u -> h'.get? b = some u)
    (ho : ∀ b, H b = some (.own a) -> H' b = some (.own a)) (ht : ∀ b xs, H b = some (.tup xs) -> H' b = some (.tup xs)) : ObjOk P w H' h' a o := by
  induction o with
  | lst xs => obtain ⟨z, its, n, r, e⟩ := x; exact ⟨z, its, n, r, k _ _ (.inl rfl) e⟩
  | tup xs => obtain ⟨z, its, r, ob, e, c⟩ := x; exact ⟨z, its, r, ob, k _ _ (.inl rfl) e, c⟩
  | dK kvs => obtain ⟨z, y, vs, r, ob, es, ep, e, c⟩ := x; exact ⟨z, y, vs, r, ob, es, ep, k _ _ (.inl rfl) e, c⟩
  | dT kvs =>
    obtain ⟨z, y, xs, r, ob, es, ep, e, c⟩ := x
    exact ⟨z, y, xs, Paired.mapP r fun p q z => ⟨z.1, ht _ _ z.2.1, z.2.2⟩, ob, es, ep, k _ _ (.inl rfl) e, c⟩
  | set S n => obtain ⟨ob, es, ep, t, e, c⟩ := x; exact ⟨ob, es, ep, t, k _ _ (.inl rfl) e, c⟩
  | ins C dx fs =>
    obtain ⟨d, z, ne, e, mA, ⟨od, es, ep, e2, c⟩, r⟩ := x
    exact ⟨ho _ d, z, ne, k _ _ (.inl rfl) e, mA, ⟨od, es, ep, k _ _ (.inr d) e2, c⟩, r⟩
  | own y => obtain ⟨ob, e⟩ := x; exact ⟨ob, k _ _ (.inl rfl) e⟩
  | xd fs => obtain ⟨mA, ⟨od, es, ep, e, c⟩, r⟩ := x; exact ⟨mA, ⟨od, es, ep, k _ _ (.inl rfl) e, c⟩, r⟩
  | rng lo hi => obtain ⟨t, u, v, e⟩ := x; exact ⟨t, u, v, k _ _ (.inl rfl) e⟩
  | frz ob u ih => obtain ⟨e, q⟩ := x; exact ⟨k _ _ (.inl rfl) e, ih q⟩
  | tbl ps =>
    have e : h.get? a = some { cls := .none, data := .fields ps } := x
    show h'.get? a = some { cls := .none, data := .fields ps }
    exact k a _ (.inl rfl) e
  | met f y =>
    have e : h.get? a = some (PySem.W.methodObj (.ref f) (.ref y)) := x
    show h'.get? a = some (PySem.W.methodObj (.ref f) (.ref y))
    exact k a _ (.inl rfl) e
  | ext φ => obtain ⟨p, ⟨o, e⟩, st⟩ := x; exact ⟨st _ _ p fun o q => k _ _ (.inl rfl) q, ⟨o, k _ _ (.inl rfl) e⟩, st⟩
theorem HOk.lt (x : HOk P w H h) (e : H a = some o) : a < h.objs.size := (x a o e).lt
theorem HOk.fresh (x : HOk P w H h) (e : h.objs.size <= a) : H a = none := by
  cases q : H a with
  | none => rfl
  | some u => exact absurd (Nat.lt_of_lt_of_le (x.lt q) e) (Nat.lt_irrefl _)
theorem HOk.kept (x : HOk P w H h) (k : ∀ b u, h.get? b = some u -> h'.get? b = some u) : HOk P w H h' := fun a o e =>
  (x a o e).stay (fun b u _ q => k b u q) (fun _ q => q) fun _ _ q => q
theorem HOk.laid (x : HOk P w H h) (k : ∀ b u, h.get? b = some u -> h'.get? b = some u) (hp : h.objs.size <= a) (new : ObjOk P w (upd H a o) h' a o) : HOk P w (upd H a o) h' := fun b u e => by
  have hn := x.fresh hp
  by_cases hb : b = a
  · subst hb; rw [upd_same] at e; cases e; exact new
  · rw [upd_ne hb] at e
    exact (x b u e).stay (fun c v _ q => k c v q) (fun c q => by rw [upd_ne (ne_of_none q hn)]; exact q) fun c xs q => by rw [upd_ne (ne_of_none q hn)]; exact q
end
def Rd (H : Hp) (a : Addr) (u : HO) : Prop := H a = some u ∨ ∃ o, H a = some (.frz o u)
theorem Rd.ok {P : Program} {w : World} {H : Hp} {h : Heap} {a : Addr} {u : HO} (r : Rd H a u) (x : HOk P w H h) : ObjOk P w H h a u := by
  rcases r with r | ⟨o, r⟩
  · exact x a u r
  · obtain ⟨_, q⟩ := x a _ r
    exact q
def Mut : Option HO -> Prop
  | some (.lst _) => True
  | some (.dK _) => True
  | some (.dT _) => True
  | some (.set _ _) => True
  | some (.ins _ _ _) => True
  | some (.ext _) => True
  | _ => False
section
variable {P : Program} {w : World} {H : Hp} {h h' : Heap} {x e : Addr} {o' : HO}
theorem HOk.write (ok : HOk P w H h) (mu : Mut (H x)) (he : e = x ∨ H e = some (.own x)) (k : ∀ b u, b ≠ e -> h.get? b = some u -> h'.get? b = some u) (heo : ∃ u, h'.get? e = some u)
    (new : ObjOk P w (upd H x o') h' x o') : HOk P w (upd H x o') h' := fun b u q => by
  have nown : ∀ c y, H c = some (.own y) -> c ≠ x := fun c y r z => by subst z; rw [r] at mu; exact mu
  have ntup : ∀ c xs, H c = some (.tup xs) -> c ≠ x := fun c xs r z => by subst z; rw [r] at mu; exact mu
  by_cases hb : b = x
  · subst hb; rw [upd_same] at q; cases q; exact new
  · rw [upd_ne hb] at q
    by_cases hbe : b = e
    · have q' : H b = some (.own x) := by
        rcases he with z | z
        · exact absurd (hbe.trans z) hb
        · rw [hbe]; exact z
      rw [q] at q'; cases q'
      obtain ⟨v, hv⟩ := heo
      exact ⟨v, by rw [hbe]; exact hv⟩
    · refine (ok b u q).stay (fun c v hc r => k c v ?_ r) (fun c r => by rw [upd_ne (nown c b r)]; exact r) fun c xs r => by rw [upd_ne (ntup c xs r)]; exact r
      rcases hc with rfl | hc
      · exact hbe
      · rintro rfl
        rcases he with z | z
        · exact nown c b hc z
        · rw [hc] at z; cases z; exact hb rfl
end
structure Un (fs ex : List Addr) (H H' : Hp) (h h' : Heap) : Prop where
  keep : ∀ b o, h.get? b = some o -> H b = none -> b ∉ fs -> b ∉ ex -> h'.get? b = some o
  slot : ∀ b o, h.get? b = some o -> H b = none -> b ∈ fs -> b ∉ ex -> ∃ sl, h'.get? b = some { o with slots := sl }
  free : ∀ b o, h.get? b = some o -> H b = none -> b ∉ ex -> H' b = none
  there : ∀ b o, h.get? b = some o -> b ∉ ex -> ∃ o', h'.get? b = some o'
  tups : ∀ b xs, H b = some (.tup xs) -> H' b = some (.tup xs)
  frzs : ∀ b o u, H b = some (.frz o u) -> H' b = some (.frz o u)
  tbls : ∀ b ps, H b = some (.tbl ps) -> ∃ more, H' b = some (.tbl (ps ++ more))
section
variable {fs fs' ex ex' : List Addr} {H H1 H2 : Hp} {h h1 h2 h' : Heap} {a x e : Addr} {o : HO}
theorem Un.any (u : Un fs ex H H1 h h1) {b : Addr} {ob : Obj} (q : h.get? b = some ob) (n : H b = none) (hx : b ∉ ex) : ∃ sl, h1.get? b = some { ob with slots := sl } := by
  by_cases hb : b ∈ fs
  · exact u.slot b ob q n hb hx
  · exact ⟨ob.slots, u.keep b ob q n hb hx⟩
theorem Un.kept (k : ∀ b u, h.get? b = some u -> h'.get? b = some u) : Un fs ex H H h h' :=
  ⟨fun b ob q _ _ _ => k b ob q, fun b ob q _ _ _ => ⟨ob.slots, k b ob q⟩, fun _ _ _ n _ => n, fun b ob q _ => ⟨ob, k b ob q⟩, fun _ _ q => q, fun _ _ _ q => q, fun _ ps q => ⟨#[], by rw [q]; simp⟩⟩
theorem Un.refl : Un fs ex H H h h := Un.kept fun _ _ q => q
theorem Un.laid (k : ∀ b u, h.get? b = some u -> h'.get? b = some u) (hp : h.objs.size <= a) (hn : H a = none) : Un fs ex H (upd H a o) h h' where
  keep := fun b u q _ _ _ => k b u q
  slot := fun b u q _ _ _ => ⟨u.slots, k b u q⟩
  free := fun b u q n _ => by rw [upd_ne (Nat.ne_of_lt (Nat.lt_of_lt_of_le (Heap.lt_size q) hp))]; exact n
  there := fun b u q _ => ⟨u, k b u q⟩
  tups := fun b xs q => by rw [upd_ne (ne_of_none q hn)]; exact q
  frzs := fun b u xs q => by rw [upd_ne (ne_of_none q hn)]; exact q
  tbls := fun b ps q => ⟨#[], by rw [upd_ne (ne_of_none q hn), q]; simp⟩
theorem Un.write (mu : Mut (H x)) (he : e = x ∨ H e = some (.own x)) (k : ∀ b u, b ≠ e -> h.get? b = some u -> h'.get? b = some u) (heo : ∃ u, h'.get? e = some u) : Un fs ex H (upd H x o) h h' := by
  have hx : ∀ b, H b = none -> b ≠ x := fun b n z => by subst z; rw [n] at mu; exact mu
  have hb : ∀ b, H b = none -> b ≠ e := fun b n z => by
    subst z
    rcases he with r | r
    · exact hx b n r
    · rw [n] at r; cases r
  have hm : ∀ b u, H b = some u -> ¬ Mut (some u) -> b ≠ x := fun b u q nm z => by subst z; rw [q] at mu; exact nm mu
  refine ⟨fun b u q n _ _ => k b u (hb b n) q, fun b u q n _ _ => ⟨u.slots, k b u (hb b n) q⟩, fun b u q n _ => by rw [upd_ne (hx b n)]; exact n, fun b u q _ => ?_,
    fun b xs q => by rw [upd_ne (hm b _ q fun z => z)]; exact q, fun b u xs q => by rw [upd_ne (hm b _ q fun z => z)]; exact q, fun b ps q => ⟨#[], by rw [upd_ne (hm b _ q fun z => z), q]; simp⟩⟩
  by_cases hbe : b = e
  · subst hbe; exact heo
  · exact ⟨u, k b u hbe q⟩
end
def trk (h : Heap) (H : Hp) : List Addr := (List.range h.objs.size).filter fun a => (H a).isSome
def hidT (h : Heap) (H : Hp) : Heap := PySem.W.hideAll h (trk h H)
theorem hidT_size (h : Heap) (H : Hp) : (hidT h H).objs.size = h.objs.size := PySem.W.hideAll_size _ _
theorem hidT_get {h : Heap} {H : Hp} {b : Addr} {o : Obj} (e : h.get? b = some o) (n : H b = none) : (hidT h H).get? b = some o :=
  PySem.W.hideAll_get _ e fun hm => by
    have q : (H b).isSome = true := (List.mem_filter.mp hm).2
    rw [n] at q; simp at q
theorem of_hidT {h : Heap} {H : Hp} {b : Addr} {o : Obj} (e : (hidT h H).get? b = some o) : h.get? b = some o /\ H b = none := by
  have e' : h.get? b = some o := PySem.W.of_hideAll (trk h H) e
  refine ⟨e', ?_⟩
  cases q : H b with
  | none => rfl
  | some x =>
    have hm : b ∈ trk h H := List.mem_filter.mpr ⟨List.mem_range.mpr (Heap.lt_size e'), by simp [q]⟩
    have z : (hidT h H).get? b = none := PySem.W.hideAll_none (trk h H) hm
    rw [z] at e; cases e
def allNews (g h : Heap) (L : Addr) : List (Addr × Obj) := (List.range h.objs.size).filterMap fun a => if a = L ∨ (g.get? a).isSome = true then none else (h.get? a).map fun o => (a, o)
def rest (g h : Heap) (L d : Addr) : List (Addr × Obj) := (allNews g h L).filter fun p => decide (p.1 ≠ d)
structure Mod (K : PySem.W.Frag) (mg : Str -> Option Value) (base : Heap) : Prop where
  kin : K.In base
  glob : base.Ns mainGlobals mg
  blt : ∃ mb, base.Ns builtinsNs mb /\ ∀ x : Str, x ≠ "__name__" -> mb x = bootBuiltins x
  nolimit : base.NoLimit
structure Cx where
  prog : Program
  w : World
  K : PySem.W.Frag
  mg : Str -> Option Value
  base : Heap
  A : Around
  N : List Str
  s₀ : Shared
  H₀ : Hp
  env : Env
  outer : List Env
  stack : List Env
  ex : List Addr
  fn : Str -> Bool
  calm : Bool
  pn : List (Addr × Obj)
  xe : Value -> Shared -> Prop
def frs (l : List Env) : List Addr := l.filterMap (·.frame)
abbrev Cx.fs (X : Cx) : List Addr := frs X.outer
def Vis (sc : Scope) (x : Str) : Prop := sc.names.lookup x = some .local ∨ sc.names.lookup x = some .cell ∨ sc.names.lookup x = some .free
def Loc (sc : Scope) (x : Str) : Prop := sc.names.lookup x = some .local ∨ sc.names.lookup x = some .cell
def Look (env : Env) (h : Heap) (m : Str -> Option Value) (x : Str) (u : Value) : Prop :=
  (env.kindOf x = some .local /\ m x = some u) ∨ ((env.kindOf x = some .cell ∨ env.kindOf x = some .free) /\ ∃ c, env.cells.lookup x = some c /\ h.IsCell c (some u))
structure Cx.Ok (X : Cx) : Prop where
  mod : Mod X.K X.mg X.base
  kind : X.env.scope.kind = .function
  glob : X.env.globals = mainGlobals
  blt : X.env.builtins = builtinsNs
  above : X.s₀.heap.objs.size <= X.env.locals
  inj : ∀ x y c, X.env.cells.lookup x = some c -> X.env.cells.lookup y = some c -> x = y
  has : ∀ x, (X.env.kindOf x = some .cell ∨ X.env.kindOf x = some .free) -> ∃ c, X.env.cells.lookup x = some c
  cab : ∀ x c, X.fn x = true -> X.env.cells.lookup x = some c -> X.s₀.heap.objs.size <= c
  hd : X.calm = true -> X.A.handled = none
  frames : X.A.frames = some X.stack
  stk : X.stack = X.outer ∨ (X.stack = X.env :: X.outer /\ X.env.frame = some X.env.locals)
  exf : ∀ b ∈ X.ex, b ≠ X.env.locals /\ ∀ x c, X.env.cells.lookup x = some c -> c ≠ b
  bs : ∀ b o, X.base.get? b = some o -> X.s₀.heap.get? b = some o /\ X.H₀ b = none
  bsz : X.base.objs.size <= X.s₀.heap.objs.size
  noex : ∀ b o, X.base.get? b = some o -> b ∉ X.ex
  exfs : ∀ b ∈ X.ex, b ∉ X.fs
  funs : X.s₀.heap.FunFrames X.base X.outer
  frf : ∀ b ∈ X.fs, X.H₀ b = none
structure Inv (X : Cx) (pins : List (Addr × Obj)) (σ : List (Option V)) (H : Hp) (s : Shared) : Prop where
  ok : X.Ok
  os : s.os = X.s₀.os
  bare : AllBare s.gens
  base : Un X.fs X.ex X.H₀ H X.s₀.heap s.heap
  loc : ∃ m, s.heap.Ns X.env.locals m /\ ∀ (i : Nat) (x : Str) (v : V), X.N[i]? = some x -> σ[i]? = some (some v) -> Vis X.env.scope x -> ∃ u, RelV v u /\ Look X.env s.heap m x u
  cell : ∀ x c, X.env.cells.lookup x = some c -> ∃ v, s.heap.IsCell c v
  free : H X.env.locals = none
  freeC : ∀ x c, X.env.cells.lookup x = some c -> H c = none
  pin : ∀ p ∈ X.pn ++ pins, s.heap.get? p.1 = some p.2 /\ H p.1 = none /\ p.1 ≠ X.env.locals /\ p.1 ∉ X.fs /\ ∀ v, p.2.data ≠ .cell v
  hok : HOk X.prog X.w H s.heap
  len : σ.length = X.N.length
section
variable {X : Cx} {pins : List (Addr × Obj)} {σ : List (Option V)} {H H' : Hp} {s : Shared} {h' : Heap}
theorem Cx.Ok.nofr (ok : X.Ok) {b : Addr} {o : Obj} (e : X.base.get? b = some o) : b ∉ X.fs := fun hb => by
  have := (ok.funs.mem hb).1
  rw [e] at this; cases this
theorem Inv.bs (I : Inv X pins σ H s) : ∀ b o, X.base.get? b = some o -> s.heap.get? b = some o /\ H b = none := fun b o e =>
  ⟨I.base.keep b o (I.ok.bs b o e).1 (I.ok.bs b o e).2 (I.ok.nofr e) (I.ok.noex b o e), I.base.free b o (I.ok.bs b o e).1 (I.ok.bs b o e).2 (I.ok.noex b o e)⟩
theorem Inv.bk (I : Inv X pins σ H s) : ∀ b o, X.base.get? b = some o -> s.heap.get? b = some o := fun b o e => (I.bs b o e).1
theorem Inv.mod (I : Inv X pins σ H s) : Mod X.K X.mg X.base := I.ok.mod
theorem Inv.kIn (I : Inv X pins σ H s) : X.K.In s.heap := I.ok.mod.kin.keeps I.bk
theorem Inv.lt (I : Inv X pins σ H s) : X.env.locals < s.heap.objs.size := let ⟨_, hn, _⟩ := I.loc; hn.lt
theorem Inv.sz (I : Inv X pins σ H s) : X.s₀.heap.objs.size <= s.heap.objs.size := Nat.le_trans I.ok.above (Nat.le_of_lt I.lt)
theorem Inv.nofs (I : Inv X pins σ H s) {a : Addr} (h : s.heap.objs.size <= a) : a ∉ X.fs := fun hb => by
  obtain ⟨_, o, ho, _⟩ := I.ok.funs.mem hb
  exact absurd (Nat.lt_of_lt_of_le (Heap.lt_size ho) (Nat.le_trans I.sz h)) (Nat.lt_irrefl _)
theorem Inv.cne (I : Inv X pins σ H s) : ∀ x c, X.env.cells.lookup x = some c -> c ≠ X.env.locals := fun x c e z => by
  obtain ⟨v, o, ho, hd⟩ := I.cell x c e
  obtain ⟨m, ⟨o', es, ep, ho', hd', _⟩, _⟩ := I.loc
  rw [z, ho'] at ho; cases ho; rw [hd'] at hd; cases hd
theorem Inv.funs (I : Inv X pins σ H s) : s.heap.FunFrames X.base X.outer := by
  have all : ∀ (l : List Env), (∀ b ∈ frs l, b ∈ X.fs) -> X.s₀.heap.FunFrames X.base l -> s.heap.FunFrames X.base l := by
    intro l
    induction l with
    | nil => intro _ _; trivial
    | cons env r ih =>
      intro hs hl
      obtain ⟨hk, ⟨L, o, hf, hn, ho, hd⟩, hr⟩ := hl
      have hL : L ∈ X.fs := hs L (by unfold frs; rw [List.filterMap_cons, hf]; exact List.mem_cons_self)
      obtain ⟨sl, e⟩ := I.base.slot L o ho (I.ok.frf L hL) hL fun z => I.ok.exfs L z hL
      exact ⟨hk, ⟨L, _, hf, hn, e, hd⟩, ih (fun b hb => hs b (by unfold frs; rw [List.filterMap_cons, hf]; exact List.mem_cons_of_mem _ hb)) hr⟩
  exact all X.outer (fun _ hb => hb) I.ok.funs
theorem Inv.stack (I : Inv X pins σ H s) : s.heap.FunFrames X.base X.stack := by
  rcases I.ok.stk with e | ⟨e, hf⟩
  · rw [e]; exact I.funs
  · rw [e]
    obtain ⟨m, hn, _⟩ := I.loc
    refine .cons (by rw [I.ok.kind]; decide) hf hn ?_ I.funs
    exact Heap.get?_none_of_le (Nat.le_trans I.ok.bsz I.ok.above)
theorem Inv.stkSub (I : Inv X pins σ H s) : ∀ b ∈ frs X.stack, b ∈ X.env.locals :: X.fs := fun b hb => by
  rcases I.ok.stk with e | ⟨e, hf⟩
  · rw [e] at hb; exact List.mem_cons_of_mem _ hb
  · rw [e] at hb
    unfold frs at hb
    rw [List.filterMap_cons, hf] at hb
    exact hb
theorem Inv.stkFree (I : Inv X pins σ H s) : ∀ b ∈ frs X.stack, H b = none := fun b hb => by
  rcases List.mem_cons.mp (I.stkSub b hb) with e | hb
  · rw [e]; exact I.free
  · obtain ⟨_, o, ho, _⟩ := I.ok.funs.mem hb
    exact I.base.free b o ho (I.ok.frf b hb) fun z => I.ok.exfs b z hb
theorem Inv.step {g' : Array GenState} {t' : Nat} {d' : Drawn} {ch : List Addr} (I : Inv X pins σ H s)
    (hch : ∀ b ∈ ch, (b ∈ X.ex ∨ X.s₀.heap.objs.size <= b) /\ b ≠ X.env.locals /\ (∀ x c, X.env.cells.lookup x = some c -> c ≠ b) /\ ∀ p ∈ X.pn ++ pins, p.1 ≠ b)
    (keep : ∀ b o, b ≠ X.env.locals -> b ∉ X.fs -> b ∉ ch -> s.heap.get? b = some o -> H b = none -> h'.get? b = some o)
    (slot : ∀ b o, b ≠ X.env.locals -> b ∈ X.fs -> b ∉ ch -> s.heap.get? b = some o -> H b = none -> ∃ sl, h'.get? b = some { o with slots := sl }) (free : ∀ b o, b ∉ ch -> s.heap.get? b = some o -> H b = none -> H' b = none)
    (there : ∀ b o, b ∉ ch -> s.heap.get? b = some o -> ∃ o', h'.get? b = some o')
    (tups : ∀ b xs, H b = some (.tup xs) -> H' b = some (.tup xs)) (frzs : ∀ b o u, H b = some (.frz o u) -> H' b = some (.frz o u)) (tbls : ∀ b ps, H b = some (.tbl ps) -> ∃ more, H' b = some (.tbl (ps ++ more)))
    (ns : ∀ m, s.heap.Ns X.env.locals m -> h'.Ns X.env.locals m) (hok : HOk X.prog X.w H' h') (hg : AllBare g') :
    Inv X pins σ H' { s with heap := h', gens := g', drawn := d', toks := t' } := by
  have neL : ∀ b o, X.s₀.heap.get? b = some o -> b ≠ X.env.locals := fun b o e => Nat.ne_of_lt (Nat.lt_of_lt_of_le (Heap.lt_size e) I.ok.above)
  have neC : ∀ b o, X.s₀.heap.get? b = some o -> b ∉ X.ex -> b ∉ ch := fun b o e hx hb => by
    rcases (hch b hb).1 with z | z
    · exact hx z
    · exact absurd (Nat.lt_of_lt_of_le (Heap.lt_size e) z) (Nat.lt_irrefl _)
  have cellK : ∀ x c, X.env.cells.lookup x = some c -> ∀ v, s.heap.IsCell c v -> h'.IsCell c v := fun x c e v ⟨o, ho, hd⟩ => by
    have nch : c ∉ ch := fun z => (hch c z).2.2.1 x c e rfl
    by_cases hc : c ∈ X.fs
    · obtain ⟨sl, q⟩ := slot c o (I.cne x c e) hc nch ho (I.freeC x c e)
      exact ⟨_, q, hd⟩
    · exact ⟨o, keep c o (I.cne x c e) hc nch ho (I.freeC x c e), hd⟩
  refine ⟨I.ok, I.os, hg, ⟨fun b o e n hb hx => ?_, fun b o e n hb hx => ?_, fun b o e n hx => ?_, fun b o e hx => ?_, fun b xs e => tups b xs (I.base.tups b xs e), fun b o xs e => frzs b o xs (I.base.frzs b o xs e), fun b ps e => ?_⟩, ?_, fun x c e => ?_, ?_, fun x c e => ?_, fun p hp => ?_, hok, I.len⟩
  · exact keep b o (neL b o e) hb (neC b o e hx) (I.base.keep b o e n hb hx) (I.base.free b o e n hx)
  · obtain ⟨sl, e1⟩ := I.base.slot b o e n hb hx
    obtain ⟨sl', e2⟩ := slot b _ (neL b o e) hb (neC b o e hx) e1 (I.base.free b o e n hx)
    exact ⟨sl', e2⟩
  · obtain ⟨o', e1⟩ := I.base.there b o e hx
    exact free b o' (neC b o e hx) e1 (I.base.free b o e n hx)
  · obtain ⟨o', e1⟩ := I.base.there b o e hx
    exact there b o' (neC b o e hx) e1
  · obtain ⟨m1, e1⟩ := I.base.tbls b ps e
    obtain ⟨m2, e2⟩ := tbls b _ e1
    exact ⟨m1 ++ m2, by rw [e2, Array.append_assoc]⟩
  · obtain ⟨m, hn, hl⟩ := I.loc
    refine ⟨m, ns m hn, fun i x v e1 e2 e3 => ?_⟩
    obtain ⟨u, r, l⟩ := hl i x v e1 e2 e3
    refine ⟨u, r, ?_⟩
    rcases l with l | ⟨k, c, e, z⟩
    · exact .inl l
    · exact .inr ⟨k, c, e, cellK x c e _ z⟩
  · obtain ⟨v, z⟩ := I.cell x c e
    exact ⟨v, cellK x c e v z⟩
  · obtain ⟨m, ⟨o, _, _, ho, _⟩, _⟩ := I.loc
    exact free _ o (fun z => (hch _ z).2.1 rfl) ho I.free
  · obtain ⟨v, o, ho, hd⟩ := I.cell x c e
    exact free c o (fun z => (hch c z).2.2.1 x c e rfl) ho (I.freeC x c e)
  · obtain ⟨e, n, ne, nf, d⟩ := I.pin p hp
    have nch : p.1 ∉ ch := fun z => (hch p.1 z).2.2.2 p hp rfl
    exact ⟨keep p.1 p.2 ne nf nch e n, free p.1 p.2 nch e n, ne, nf, d⟩
theorem Inv.un {t' : Nat} (I : Inv X pins σ H s) (u : Un X.fs [] H H' s.heap h') (hok : HOk X.prog X.w H' h') : Inv X pins σ H' { s with heap := h', toks := t' } := by
  obtain ⟨m, ⟨o, es, ep, ho, r⟩, _⟩ := id I.loc
  obtain ⟨sl, hL⟩ := u.any ho I.free (by simp)
  exact I.step (g' := s.gens) (d' := s.drawn) (ch := []) (fun _ z => nomatch z) (fun b o _ hb _ e n => u.keep b o e n hb (by simp)) (fun b o _ hb _ e n => u.slot b o e n hb (by simp)) (fun b o _ e n => u.free b o e n (by simp)) (fun b o _ e => u.there b o e (by simp)) u.tups u.frzs u.tbls (fun m' hm => by
    obtain ⟨o', es', ep', ho', r'⟩ := hm
    rw [ho] at ho'; cases ho'
    exact ⟨_, es', ep', hL, r'⟩) hok I.bare
theorem Inv.call {g' : Array GenState} {t' : Nat} {d' : Drawn} {ch : List Addr} (I : Inv X pins σ H s) (u : Un (frs X.stack) ch H H' s.heap h') (hok : HOk X.prog X.w H' h') (hg : AllBare g')
    (hch : ∀ b ∈ ch, (b ∈ X.ex ∨ X.s₀.heap.objs.size <= b) /\ b ≠ X.env.locals /\ (∀ x c, X.env.cells.lookup x = some c -> c ≠ b) /\ ∀ p ∈ X.pn ++ pins, p.1 ≠ b) :
    Inv X pins σ H' { s with heap := h', gens := g', drawn := d', toks := t' } := by
  obtain ⟨m, ⟨o, es, ep, ho, r⟩, _⟩ := id I.loc
  obtain ⟨sl, hL⟩ := u.any ho I.free fun z => (hch _ z).2.1 rfl
  exact I.step (ch := ch) hch (fun b o hL hb hc e n => u.keep b o e n (fun z => (List.mem_cons.mp (I.stkSub b z)).elim hL hb) hc) (fun b o _ _ hc e n => u.any e n hc) (fun b o hc e n => u.free b o e n hc) (fun b o hc e => u.there b o e hc) u.tups u.frzs u.tbls (fun m' hm => by
    obtain ⟨o', es', ep', ho', r'⟩ := hm
    rw [ho] at ho'; cases ho'
    exact ⟨_, es', ep', hL, r'⟩) hok hg
theorem Inv.turned {t' : Nat} {it : Addr} (I : Inv X pins σ H s) (k : ∀ b o, b ≠ it -> s.heap.get? b = some o -> h'.get? b = some o) (hn : H it = none) (hL : it ≠ X.env.locals)
    (h1 : it ∈ X.ex ∨ X.s₀.heap.objs.size <= it) (h2 : ∀ x c, X.env.cells.lookup x = some c -> c ≠ it) (h3 : ∀ p ∈ X.pn ++ pins, p.1 ≠ it) : Inv X pins σ H { s with heap := h', toks := t' } := by
  have nit : ∀ b u, H b = some u -> b ≠ it := fun b u e z => by rw [z, hn] at e; cases e
  refine I.step (g' := s.gens) (d' := s.drawn) (ch := [it]) (fun b hb => ?_) (fun b o _ _ hc e _ => k b o (fun z => hc (by simp [z])) e) (fun b o _ _ hc e _ => ⟨o.slots, k b o (fun z => hc (by simp [z])) e⟩) (fun _ _ _ _ n => n)
    (fun b o hc e => ⟨o, k b o (fun z => hc (by simp [z])) e⟩) (fun _ _ e => e) (fun _ _ _ e => e) (fun b ps e => ⟨#[], by rw [e]; simp⟩) (fun m hm => ?_) (fun b u e => ?_) I.bare
  · have e : b = it := by simpa using hb
    subst e
    exact ⟨h1, hL, h2, h3⟩
  · obtain ⟨o, es, ep, ho, r⟩ := hm
    exact ⟨o, es, ep, k _ o (Ne.symm hL) ho, r⟩
  · refine (I.hok b u e).stay (fun c v hc q => k c v ?_ q) (fun _ q => q) fun _ _ q => q
    rcases hc with z | z
    · rw [z]; exact nit b u e
    · exact nit c _ z
theorem Inv.tok (I : Inv X pins σ H s) (t : Nat) : Inv X pins σ H { s with toks := t } := I.un (h' := s.heap) (t' := t) Un.refl I.hok
theorem Inv.kept {t' : Nat} (I : Inv X pins σ H s) (k : ∀ b u, s.heap.get? b = some u -> h'.get? b = some u) : Inv X pins σ H { s with heap := h', toks := t' } := I.un (Un.kept k) (I.hok.kept k)
theorem Inv.laid {a : Addr} {o : HO} {t' : Nat} (I : Inv X pins σ H s) (k : ∀ b u, s.heap.get? b = some u -> h'.get? b = some u) (hp : s.heap.objs.size <= a) (new : ObjOk X.prog X.w (upd H a o) h' a o) :
    Inv X pins σ (upd H a o) { s with heap := h', toks := t' } := I.un (Un.laid k hp (I.hok.fresh hp)) (I.hok.laid k hp new)
theorem Inv.write {x e : Addr} {o : HO} {t' : Nat} (I : Inv X pins σ H s) (mu : Mut (H x)) (he : e = x ∨ H e = some (.own x)) (k : ∀ b u, b ≠ e -> s.heap.get? b = some u -> h'.get? b = some u) (heo : ∃ u, h'.get? e = some u)
    (new : ObjOk X.prog X.w (upd H x o) h' x o) : Inv X pins σ (upd H x o) { s with heap := h', toks := t' } := I.un (Un.write mu he k heo) (I.hok.write mu he k heo new)
theorem Inv.pins_of {pins' : List (Addr × Obj)} (I : Inv X pins σ H s) (h : ∀ p ∈ pins', s.heap.get? p.1 = some p.2 /\ H p.1 = none /\ p.1 ≠ X.env.locals /\ p.1 ∉ X.fs /\ ∀ v, p.2.data ≠ .cell v) : Inv X pins' σ H s :=
  ⟨I.ok, I.os, I.bare, I.base, I.loc, I.cell, I.free, I.freeC, fun p hp => (List.mem_append.mp hp).elim (fun z => I.pin p (List.mem_append_left _ z)) (h p), I.hok, I.len⟩
theorem nodup_ix {N : List Str} (hN : N.Nodup) {i j : Nat} {x : Str} (a : N[i]? = some x) (b : N[j]? = some x) : i = j := by
  obtain ⟨h1, e1⟩ := List.getElem?_eq_some_iff.mp a
  obtain ⟨h2, e2⟩ := List.getElem?_eq_some_iff.mp b
  exact (List.getElem_inj hN).mp (e1.trans e2.symm)
theorem store_ok2 {M : Model} {A : Around} {E : Value -> Shared -> Prop} {i : Nat} {x : Str} {v : V} {u : Value} {Q : Unit -> Shared -> Prop} (I : Inv X pins σ H s) (hN : X.N.Nodup) (hi : X.N[i]? = some x) (hx : Loc X.env.scope x) (r : RelV v u)
    (h : ∀ s', Inv X pins (σ.set i (some v)) H s' -> (∃ a, Heap.SameBut a s.heap s'.heap /\ (a = X.env.locals ∨ X.env.cells.lookup x = some a)) -> Q () s') (hf : X.fn x = true ∨ X.env.scope.names.lookup x = some .local := by first | exact .inl rfl | exact .inr rfl | assumption) : wpAny M A (storeName X.env x u) Q E s := by
  obtain ⟨m, hn, hl⟩ := id I.loc
  have hcls : (X.env.scope.kind == .class || (X.env.scope.kind == .module && X.env.locals != X.env.globals)) = false := by rw [I.ok.kind]; rfl
  have hiσ : i < σ.length := by rw [I.len]; exact (List.getElem?_eq_some_iff.mp hi).1
  have cne := I.cne
  have tracked : ∀ {a : Addr} {h' : Heap}, (∃ o, s.heap.get? a = some o /\ H a = none) -> Heap.SameBut a s.heap h' -> HOk X.prog X.w H h' := fun {a h'} ha hs b ob e => by
    obtain ⟨_, _, hfree⟩ := ha
    refine (I.hok b ob e).stay (fun c w' hc q => (hs.2 c ?_).trans q) (fun _ q => q) fun _ _ q => q
    rintro rfl
    rcases hc with rfl | hc
    · rw [hfree] at e; cases e
    · rw [hfree] at hc; cases hc
  rcases hx with hk | hk
  · refine wpAny_storeName_local hk hn (fun h' hn' hs => ?_) hcls
    obtain ⟨oL, _, _, hoL, _⟩ := id hn
    refine h _ ⟨I.ok, I.os, I.bare, ⟨fun b o e n hb hx => ?_, fun b o e n hb hx => ?_, I.base.free, fun b o e hx => ?_, I.base.tups, I.base.frzs, I.base.tbls⟩, ⟨_, hn', fun j y v' e1 e2 e3 => ?_⟩, fun y c e => ?_, I.free, I.freeC, fun p hp => ?_, tracked ⟨oL, hoL, I.free⟩ hs, by simpa using I.len⟩ ⟨_, hs, .inl rfl⟩
    · exact (hs.2 b (Nat.ne_of_lt (Nat.lt_of_lt_of_le (Heap.lt_size e) I.ok.above))).trans (I.base.keep b o e n hb hx)
    · obtain ⟨sl, e1⟩ := I.base.slot b o e n hb hx
      exact ⟨sl, (hs.2 b (Nat.ne_of_lt (Nat.lt_of_lt_of_le (Heap.lt_size e) I.ok.above))).trans e1⟩
    · obtain ⟨o', e1⟩ := I.base.there b o e hx
      exact ⟨o', (hs.2 b (Nat.ne_of_lt (Nat.lt_of_lt_of_le (Heap.lt_size e) I.ok.above))).trans e1⟩
    · by_cases hj : j = i
      · subst hj
        rw [hi] at e1; cases e1
        rw [List.getElem?_set_self hiσ] at e2
        cases e2
        exact ⟨u, r, .inl ⟨hk, by simp⟩⟩
      · rw [List.getElem?_set_ne (Ne.symm hj)] at e2
        obtain ⟨u', r', q⟩ := hl j y v' e1 e2 e3
        refine ⟨u', r', ?_⟩
        rcases q with ⟨k, e⟩ | ⟨k, c, e, z⟩
        · refine .inl ⟨k, ?_⟩
          have : y ≠ x := fun e => hj (nodup_ix hN e1 (e ▸ hi))
          simp [this, e]
        · exact .inr ⟨k, c, e, z.sameBut hs (cne y c e)⟩
    · obtain ⟨w', z⟩ := I.cell y c e
      exact ⟨w', z.sameBut hs (cne y c e)⟩
    · obtain ⟨e, n, ne, nf, d⟩ := I.pin p hp
      exact ⟨(hs.2 p.1 ne).trans e, n, ne, nf, d⟩
  · have hfn : X.fn x = true := by
      rcases hf with z | z
      · exact z
      · rw [z] at hk; cases hk
    obtain ⟨c, hc⟩ := I.ok.has x (.inl hk)
    obtain ⟨w', z⟩ := I.cell x c hc
    refine wpAny_storeName_cell I.ok.kind hk hc z (fun h' hc' hs => ?_)
    obtain ⟨oc, hoc, hocd⟩ := id z
    refine h { s with heap := h' } ⟨I.ok, I.os, I.bare, ⟨fun b o e n hb hx => ?_, fun b o e n hb hx => ?_, I.base.free, fun b o e hx => ?_, I.base.tups, I.base.frzs, I.base.tbls⟩, ⟨m, hn.sameBut hs (Ne.symm (cne x c hc)), fun j y v' e1 e2 e3 => ?_⟩, fun y c' e => ?_, I.free, I.freeC, fun p hp => ?_, tracked ⟨oc, hoc, I.freeC x c hc⟩ hs, by simpa using I.len⟩ ⟨c, hs, .inr hc⟩
    · exact (hs.2 b (Nat.ne_of_lt (Nat.lt_of_lt_of_le (Heap.lt_size e) (I.ok.cab x c hfn hc)))).trans (I.base.keep b o e n hb hx)
    · obtain ⟨sl, e1⟩ := I.base.slot b o e n hb hx
      exact ⟨sl, (hs.2 b (Nat.ne_of_lt (Nat.lt_of_lt_of_le (Heap.lt_size e) (I.ok.cab x c hfn hc)))).trans e1⟩
    · obtain ⟨o', e1⟩ := I.base.there b o e hx
      exact ⟨o', (hs.2 b (Nat.ne_of_lt (Nat.lt_of_lt_of_le (Heap.lt_size e) (I.ok.cab x c hfn hc)))).trans e1⟩
    · by_cases hj : j = i
      · subst hj
        rw [hi] at e1; cases e1
        rw [List.getElem?_set_self hiσ] at e2
        cases e2
        exact ⟨u, r, .inr ⟨.inl hk, c, hc, hc'⟩⟩
      · rw [List.getElem?_set_ne (Ne.symm hj)] at e2
        obtain ⟨u', r', q⟩ := hl j y v' e1 e2 e3
        refine ⟨u', r', ?_⟩
        rcases q with q | ⟨k, c', e, z'⟩
        · exact .inl q
        · refine .inr ⟨k, c', e, z'.sameBut hs ?_⟩
          rintro rfl
          exact hj (nodup_ix hN e1 (I.ok.inj _ _ _ e hc ▸ hi))
    · by_cases hcc : c' = c
      · subst hcc; exact ⟨_, hc'⟩
      · obtain ⟨w2, z2⟩ := I.cell y c' e
        exact ⟨w2, z2.sameBut hs hcc⟩
    · obtain ⟨e, n, ne, nf, d⟩ := I.pin p hp
      refine ⟨(hs.2 p.1 ?_).trans e, n, ne, nf, d⟩
      intro q
      rw [q, hoc] at e
      have q' : oc = p.2 := Option.some.inj e
      exact d w' (by rw [<- q']; exact hocd)
theorem store_ok {M : Model} {A : Around} {E : Value -> Shared -> Prop} {i : Nat} {x : Str} {v : V} {u : Value} {Q : Unit -> Shared -> Prop} (I : Inv X pins σ H s) (hN : X.N.Nodup) (hi : X.N[i]? = some x) (hx : Loc X.env.scope x) (r : RelV v u)
    (h : ∀ s', Inv X pins (σ.set i (some v)) H s' -> Q () s') (hf : X.fn x = true ∨ X.env.scope.names.lookup x = some .local := by first | exact .inl rfl | exact .inr rfl | assumption) : wpAny M A (storeName X.env x u) Q E s :=
  store_ok2 I hN hi hx r (fun s' I' _ => h s' I') hf
theorem Inv.call' {s' : Shared} {ch : List Addr} (I : Inv X pins σ H s) (ho : s'.os = s.os) (u : Un (frs X.stack) ch H H' s.heap s'.heap) (hok : HOk X.prog X.w H' s'.heap) (hg : AllBare s'.gens)
    (hch : ∀ b ∈ ch, (b ∈ X.ex ∨ X.s₀.heap.objs.size <= b) /\ b ≠ X.env.locals /\ (∀ x c, X.env.cells.lookup x = some c -> c ≠ b) /\ ∀ p ∈ X.pn ++ pins, p.1 ≠ b) : Inv X pins σ H' s' := by
  obtain ⟨h', g', d', t', o'⟩ := s'
  have e : o' = s.os := ho
  subst e
  exact I.call (g' := g') (t' := t') (d' := d') u hok hg hch
end
abbrev XK := Value -> Option Addr -> Hp -> Prop
abbrev St := List (Option V)
abbrev VK := V -> Hp -> Prop
abbrev TE := St -> Hp -> VK -> Prop
abbrev TT := St -> Hp -> (Bool -> Hp -> Prop) -> Prop
abbrev TA := St -> Hp -> (List V -> Hp -> Prop) -> Prop
structure Ends where
  nx : St -> Hp -> Prop
  rt : VK
  bk : St -> Hp -> Prop := fun _ _ => False
  ct : St -> Hp -> Prop := fun _ _ => False
abbrev TS := Ends -> St -> Hp -> Prop
def EP (X : Cx) (pins : List (Addr × Obj)) (σ : St) (Q : VK) (u : Value) (s' : Shared) : Prop := ∃ v H', Inv X pins σ H' s' /\ RelV v u /\ Q v H'
def TP (X : Cx) (pins : List (Addr × Obj)) (σ : St) (Q : Bool -> Hp -> Prop) (b : Bool) (s' : Shared) : Prop := ∃ H', Inv X pins σ H' s' /\ Q b H'
def AP (X : Cx) (pins : List (Addr × Obj)) (σ : St) (Q : List V -> Hp -> Prop) (us : List Value) (s' : Shared) : Prop := ∃ vs H', Inv X pins σ H' s' /\ Vals vs us /\ Q vs H'
def SP (X : Cx) (pins : List (Addr × Obj)) (D : Ends) (f : Flow) (s' : Shared) : Prop :=
  match f with
  | .next => ∃ σ' H', Inv X pins σ' H' s' /\ D.nx σ' H'
  | .brk => ∃ σ' H', Inv X pins σ' H' s' /\ D.bk σ' H'
  | .cont => ∃ σ' H', Inv X pins σ' H' s' /\ D.ct σ' H'
  | .ret u => ∃ v σ' H', Inv X pins σ' H' s' /\ RelV v u /\ D.rt v H'
def PE (X : Cx) (e : Expr) (t : TE) : Prop :=
  ∀ (pins : List (Addr × Obj)) (s : Shared) (σ : St) (H : Hp) (Q : VK), Inv X pins σ H s -> t σ H Q -> wpAny (model X.prog X.w) X.A (eval e X.env) (EP X pins σ Q) X.xe s
def PT (X : Cx) (e : Expr) (t : TT) : Prop :=
  ∀ (pins : List (Addr × Obj)) (s : Shared) (σ : St) (H : Hp) (Q : Bool -> Hp -> Prop), Inv X pins σ H s -> t σ H Q -> wpAny (model X.prog X.w) X.A (isTrue e X.env (eval e X.env)) (TP X pins σ Q) X.xe s
def PW (X : Cx) (e : Expr) (t : TT) : Prop :=
  ∀ (whole : Sem Value) (pins : List (Addr × Obj)) (s : Shared) (σ : St) (H : Hp) (Q : Bool -> Hp -> Prop), Inv X pins σ H s -> t σ H Q -> wpAny (model X.prog X.w) X.A (isTrue e X.env whole) (TP X pins σ Q) X.xe s
theorem PW.pt {X : Cx} {e : Expr} {t : TT} (h : PW X e t) : PT X e t := h _
def PA (X : Cx) (es : List Expr) (t : TA) : Prop :=
  ∀ (pos : Pos) (pins : List (Addr × Obj)) (s : Shared) (σ : St) (H : Hp) (Q : List V -> Hp -> Prop), Inv X pins σ H s -> t σ H Q -> wpAny (model X.prog X.w) X.A (spliced (backTo pos (starEach es X.env))) (AP X pins σ Q) X.xe s
def PS (X : Cx) (st : Stmt) (t : TS) : Prop :=
  ∀ (pins : List (Addr × Obj)) (s : Shared) (σ : St) (H : Hp) (D : Ends), Inv X pins σ H s -> t D σ H -> wpAny (model X.prog X.w) X.A (exec st X.env) (SP X pins D) X.xe s
def PSs (X : Cx) (st : List Stmt) (t : TS) : Prop :=
  ∀ (pins : List (Addr × Obj)) (s : Shared) (σ : St) (H : Hp) (D : Ends), Inv X pins σ H s -> t D σ H -> wpAny (model X.prog X.w) X.A (execs st X.env) (SP X pins D) X.xe s
theorem thn {α : Type} {t : Sem α} {Q Q' : α -> Shared -> Prop} {M : Model} {A : Around} {E : Value -> Shared -> Prop} {s : Shared} (h : wpAny M A t Q E s) (hQ : ∀ a s, Q a s -> Q' a s) : wpAny M A t Q' E s := wpAny_mono h hQ fun _ _ x => x
section
variable {X : Cx}
def tVar (i : Nat) : TE := fun σ H Q => ∃ v, σ[i]? = some (some v) /\ Q v H
def tC (v : V) : TE := fun _ H Q => Q v H
theorem pe_var {i : Nat} {x : Str} {pos : Pos} (hN : X.N[i]? = some x) (hv : Vis X.env.scope x) (hd : (x == ("__debug__" : Str)) = false := by decide) (hcd : (x == ("__classdict__" : Str)) = false := by decide) : PE X (.Name x pos) (tVar i) := by
  intro pins s σ H Q I h
  obtain ⟨v, e, h⟩ := h
  obtain ⟨m, hn, hl⟩ := I.loc
  obtain ⟨u, r, l⟩ := hl i x v hN e hv
  have fin : EP X pins σ Q u s := ⟨v, H, I, r, h⟩
  rcases l with ⟨hk, hm⟩ | ⟨hk, c, hc, hcell⟩
  · exact wpAny_Name (wpAny_loadName_local I.ok.kind hk hn hm fin) hd
  · rcases hk with hk | hk
    · exact wpAny_Name (wpAny_loadName_cell I.ok.kind hk hc hcell fin) hd
    · exact wpAny_Name (wpAny_loadName_free I.ok.kind hk hc hcell fin hcd) hd
theorem pe_int {i j pos} : PE X (.Constant (.int i) j pos) (tC (.int i)) := fun _ _ _ H _ I h => wpAny_Constant_int ⟨.int i, H, I.tok _, ⟨_, rfl⟩, h⟩
theorem pe_bl {b j pos} : PE X (.Constant (.bool b) j pos) (tC (.bl b)) := fun _ _ _ H _ I h => Constant_bool ⟨.bl b, H, I, rfl, h⟩
theorem pe_non {j pos} : PE X (.Constant .none j pos) (tC .non) := fun _ _ _ H _ I h => Constant_none ⟨.non, H, I, rfl, h⟩
theorem pe_str {x j pos} : PE X (.Constant (.str x) j pos) (tC (.str x)) := fun _ _ _ H _ I h => Calls.Constant_str ⟨.str x, H, I.tok _, ⟨_, rfl⟩, h⟩
def Gl (X : Cx) (x : Str) : Prop := X.env.kindOf x = some .globalImplicit
theorem ld_glob {E : Value -> Shared -> Prop} {pins : List (Addr × Obj)} {s : Shared} {σ : St} {H : Hp} {x : Str} {u : Value} {pos : Pos} {Q : Value -> Shared -> Prop} (I : Inv X pins σ H s) (hg : Gl X x) (hm : X.mg x = some u) (h : Q u s)
    (hd : (x == ("__debug__" : Str)) = false := by decide) : wpAny (model X.prog X.w) X.A (eval (.Name x pos) X.env) Q E s :=
  Calls.Name_function_global I.ok.kind hg (Calls.loadGlobal_global (by rw [I.ok.glob]; exact I.mod.glob.keeps I.bk) hm h) hd
theorem ld_blt {E : Value -> Shared -> Prop} {pins : List (Addr × Obj)} {s : Shared} {σ : St} {H : Hp} {x : Str} {u : Value} {pos : Pos} {Q : Value -> Shared -> Prop} (I : Inv X pins σ H s) (hg : Gl X x) (hm : X.mg x = none) (hv : bootBuiltins x = some u) (h : Q u s)
    (hn : x ≠ "__name__" := by decide) (hd : (x == ("__debug__" : Str)) = false := by decide) : wpAny (model X.prog X.w) X.A (eval (.Name x pos) X.env) Q E s := by
  obtain ⟨mb, h1, h2⟩ := I.mod.blt
  exact Calls.Name_function_global I.ok.kind hg (Calls.loadGlobal_builtin (by rw [I.ok.glob]; exact I.mod.glob.keeps I.bk) hm (by rw [I.ok.blt]; exact h1.keeps I.bk) ((h2 x hn).trans hv) h) hd
theorem pe_glob {x : Str} {v : V} {u : Value} {pos : Pos} (hg : Gl X x) (hm : X.mg x = some u) (r : RelV v u) (hd : (x == ("__debug__" : Str)) = false := by decide) : PE X (.Name x pos) (tC v) :=
  fun _ _ _ H _ I h => ld_glob I hg hm ⟨v, H, I, r, h⟩ hd
theorem pe_bltn {x : Str} {v : V} {u : Value} {pos : Pos} (hg : Gl X x) (hm : X.mg x = none) (hv : bootBuiltins x = some u) (r : RelV v u) (hn : x ≠ "__name__" := by decide) (hd : (x == ("__debug__" : Str)) = false := by decide) : PE X (.Name x pos) (tC v) :=
  fun _ _ _ H _ I h => ld_blt I hg hm hv ⟨v, H, I, r, h⟩ hn hd
variable {a b : Expr} {ta tb : TE} {pos : Pos}
variable {tA tB' : TT} {rest : List Expr}
def tAnd (t u : TT) : TT := fun σ H Q => t σ H fun c H1 => if c = true then u σ H1 Q else Q false H1
def tOr (t u : TT) : TT := fun σ H Q => t σ H fun c H1 => if c = true then Q true H1 else u σ H1 Q
def tNot (t : TT) : TT := fun σ H Q => t σ H fun c H1 => Q (!c) H1
theorem pw_and1 (ha : PT X a tA) : PW X (.BoolOp .And [a] pos) tA := by
  intro wh pins s σ H Q I h
  refine isTrue_and (thn (ha pins s σ H Q I h) fun c s1 e => ?_)
  cases c with
  | true => exact isTrue_and_nil e
  | false => exact e
theorem pw_or1 (ha : PT X a tA) : PW X (.BoolOp .Or [a] pos) tA := by
  intro wh pins s σ H Q I h
  refine isTrue_or (thn (ha pins s σ H Q I h) fun c s1 e => ?_)
  cases c with
  | false => exact isTrue_or_nil e
  | true => exact e
theorem pw_and (ha : PT X a tA) (hb : PW X (.BoolOp .And (b :: rest) pos) tB') : PW X (.BoolOp .And (a :: b :: rest) pos) (tAnd tA tB') := by
  intro wh pins s σ H Q I h
  refine isTrue_and (thn (ha pins s σ H _ I h) fun c s1 ⟨H1, I1, q1⟩ => ?_)
  cases c with
  | true => exact hb wh pins s1 σ H1 Q I1 q1
  | false => exact ⟨H1, I1, q1⟩
theorem pw_or (ha : PT X a tA) (hb : PW X (.BoolOp .Or (b :: rest) pos) tB') : PW X (.BoolOp .Or (a :: b :: rest) pos) (tOr tA tB') := by
  intro wh pins s σ H Q I h
  refine isTrue_or (thn (ha pins s σ H _ I h) fun c s1 ⟨H1, I1, q1⟩ => ?_)
  cases c with
  | true => exact ⟨H1, I1, q1⟩
  | false => exact hb wh pins s1 σ H1 Q I1 q1
theorem pt_not (ha : PT X a tA) : PT X (.UnaryOp .Not a pos) (tNot tA) := by
  intro pins s σ H Q I h
  exact isTrue_not (ha pins s σ H (fun c H1 => Q (!c) H1) I h)
def tAndV (ta tb : TE) : TE := fun σ H Q => ta σ H fun x H1 => ∃ c, x = .bl c /\ if c = true then tb σ H1 Q else Q (.bl false) H1
def tOrV (ta tb : TE) : TE := fun σ H Q => ta σ H fun x H1 => ∃ c, x = .bl c /\ if c = true then Q (.bl true) H1 else tb σ H1 Q
theorem pe_one {op} {t : TE} (h : PE X a t) : PE X (.BoolOp op [a] pos) t := fun pins s σ H Q I hw => BoolOp_one (h pins s σ H Q I hw)
theorem pe_and (ha : PE X a ta) (hb : PE X (.BoolOp .And (b :: rest) pos) tb) : PE X (.BoolOp .And (a :: b :: rest) pos) (tAndV ta tb) := by
  intro pins s σ H Q I h
  refine BoolOp_and (thn (ha pins s σ H _ I h) fun v s1 ⟨x, H1, I1, r1, q1⟩ => ?_)
  obtain ⟨c, rfl, q1⟩ := q1
  cases r1
  refine wpAny_truthy_bool ?_
  cases c with
  | true => exact hb pins s1 σ H1 Q I1 q1
  | false => exact ⟨.bl false, H1, I1, rfl, q1⟩
theorem pe_or (ha : PE X a ta) (hb : PE X (.BoolOp .Or (b :: rest) pos) tb) : PE X (.BoolOp .Or (a :: b :: rest) pos) (tOrV ta tb) := by
  intro pins s σ H Q I h
  refine BoolOp_or (thn (ha pins s σ H _ I h) fun v s1 ⟨x, H1, I1, r1, q1⟩ => ?_)
  obtain ⟨c, rfl, q1⟩ := q1
  cases r1
  refine wpAny_truthy_bool ?_
  cases c with
  | false => exact hb pins s1 σ H1 Q I1 q1
  | true => exact ⟨.bl true, H1, I1, rfl, q1⟩
end
def SqL (K : PySem.W.Frag) (H : Hp) (a : Addr) (xs : List V) : Prop :=
  Rd H a (.lst xs) ∨
    ∃ (o : Obj) (its : Array Value) (n : Nat), K.lookup a = some o /\ o.cls = .type "list" /\ o.dict = none /\ o.data = .seq its n /\ its.size <= sizeLine /\ Vals xs its.toList
def SqT (K : PySem.W.Frag) (H : Hp) (a : Addr) (xs : List V) : Prop :=
  Rd H a (.tup xs) ∨
    ∃ (o : Obj) (its : Array Value) (n : Nat), K.lookup a = some o /\ o.cls = .type "tuple" /\ o.data = .seq its n /\ its.size <= sizeLine /\ Vals xs its.toList
def absV : Value -> Option V
  | .none => some .non
  | .bool b => some (.bl b)
  | .int i _ => some (.int i)
  | .str x _ => some (.str x)
  | .bytes b _ => some (.byt b)
  | .float b _ => some (.flt b)
  | .ref a => some (.ref a)
  | .type n => some (.ty n)
  | _ => none
theorem RelV.abs {x : V} {u : Value} (r : RelV x u) : absV u = some x := by
  cases x with
  | non => cases r; rfl
  | bl _ => cases r; rfl
  | int _ => obtain ⟨t, rfl⟩ := r; rfl
  | str _ => obtain ⟨t, rfl⟩ := r; rfl
  | byt _ => obtain ⟨t, rfl⟩ := r; rfl
  | flt _ => obtain ⟨t, rfl⟩ := r; rfl
  | ref _ => cases r; rfl
  | ty _ => cases r; rfl
theorem RelV.inj {x y : V} {u : Value} (r : RelV x u) (q : RelV y u) : x = y := Option.some.inj (r.abs.symm.trans q.abs)
theorem Vals.inj : ∀ {xs ys : List V} {us : List Value}, Vals xs us -> Vals ys us -> xs = ys
  | _, _, _, .nil, .nil => rfl
  | _, _, _, .cons r t, .cons r' t' => by rw [r.inj r', Vals.inj t t']
section
variable {X : Cx} {pins : List (Addr × Obj)} {σ : St} {H : Hp} {s : Shared} {a : Addr} {xs ys : List V}
theorem SqL.of {K : PySem.W.Frag} (h : H a = some (.lst xs)) : SqL K H a xs := .inl (.inl h)
theorem SqT.of {K : PySem.W.Frag} (h : H a = some (.tup xs)) : SqT K H a xs := .inl (.inl h)
theorem Inv.list (I : Inv X pins σ H s) (h : SqL X.K H a xs) : ∃ its : List Value, Vals xs its /\ PlainL s.heap a its.toArray /\ xs.length <= sizeLine := by
  rcases h with h | ⟨o, its, n, hk, hc, hd, hs, hz, r⟩
  · obtain ⟨z, its, n, r, e⟩ := h.ok I.hok
    exact ⟨its, r, ⟨_, n, e, rfl, rfl, rfl⟩, z⟩
  · refine ⟨its.toList, r, ⟨o, n, I.kIn a o hk, hc, hd, by simpa using hs⟩, ?_⟩
    have e := r.length
    simp only [Array.length_toList] at e
    omega
theorem Inv.tuple (I : Inv X pins σ H s) (h : SqT X.K H a xs) : ∃ its : List Value, Vals xs its /\ IsTup s.heap a its.toArray /\ xs.length <= sizeLine := by
  rcases h with h | ⟨o, its, n, hk, hc, hs, hz, r⟩
  · obtain ⟨z, its, r, p⟩ := h.ok I.hok
    exact ⟨its, r, p, z⟩
  · refine ⟨its.toList, r, ⟨o, I.kIn a o hk, hc, n, by simpa using hs⟩, ?_⟩
    have e := r.length
    simp only [Array.length_toList] at e
    omega
theorem Inv.list_inj (I : Inv X pins σ H s) (h : SqL X.K H a xs) (h' : SqL X.K H a ys) : xs = ys := by
  obtain ⟨its, r, ⟨o, n, e, _, _, d⟩, _⟩ := I.list h
  obtain ⟨its', r', ⟨o', n', e', _, _, d'⟩, _⟩ := I.list h'
  rw [e] at e'; cases e'
  rw [d] at d'
  injection d' with d1 _
  have : its = its' := by simpa using congrArg Array.toList d1
  subst this
  exact r.inj r'
end
abbrev Cx.wish (X : Cx) (E : Value -> Shared -> Prop) : Cx := { X with xe := E }
abbrev Cx.nox (X : Cx) : Cx := X.wish fun _ _ => False
theorem Cx.Ok.wish {X : Cx} (ok : X.Ok) (E : Value -> Shared -> Prop) : (X.wish E).Ok :=
  ⟨ok.mod, ok.kind, ok.glob, ok.blt, ok.above, ok.inj, ok.has, ok.cab, ok.hd, ok.frames, ok.stk, ok.exf, ok.bs, ok.bsz, ok.noex, ok.exfs, ok.funs, ok.frf⟩
theorem Cx.Ok.unwish {X : Cx} {E : Value -> Shared -> Prop} (ok : (X.wish E).Ok) : X.Ok :=
  ⟨ok.mod, ok.kind, ok.glob, ok.blt, ok.above, ok.inj, ok.has, ok.cab, ok.hd, ok.frames, ok.stk, ok.exf, ok.bs, ok.bsz, ok.noex, ok.exfs, ok.funs, ok.frf⟩
section
variable {X : Cx} {pins : List (Addr × Obj)} {σ : St} {H : Hp} {s : Shared} {E : Value -> Shared -> Prop}
theorem Inv.wish (I : Inv X pins σ H s) (E : Value -> Shared -> Prop) : Inv (X.wish E) pins σ H s := ⟨I.ok.wish E, I.os, I.bare, I.base, I.loc, I.cell, I.free, I.freeC, I.pin, I.hok, I.len⟩
theorem Inv.unwish (I : Inv (X.wish E) pins σ H s) : Inv X pins σ H s := ⟨I.ok.unwish, I.os, I.bare, I.base, I.loc, I.cell, I.free, I.freeC, I.pin, I.hok, I.len⟩
theorem SP.unwish {D : Ends} {f : Flow} {s' : Shared} (h : SP (X.wish E) pins D f s') : SP X pins D f s' := by
  cases f with
  | next => obtain ⟨σ', H', I, q⟩ := h; exact ⟨σ', H', I.unwish, q⟩
  | brk => obtain ⟨σ', H', I, q⟩ := h; exact ⟨σ', H', I.unwish, q⟩
  | cont => obtain ⟨σ', H', I, q⟩ := h; exact ⟨σ', H', I.unwish, q⟩
  | ret u => obtain ⟨v, σ', H', I, r, q⟩ := h; exact ⟨v, σ', H', I.unwish, r, q⟩
theorem PE.nox {e : Expr} {t : TE} (h : PE X.nox e t) : PE X e t := fun pins s σ H Q I hw =>
  wpAny_mono (h pins s σ H Q (I.wish _) hw) (fun _ _ ⟨v, H', I', r, q⟩ => ⟨v, H', I'.unwish, r, q⟩) fun _ _ z => False.elim z
theorem PT.nox {e : Expr} {t : TT} (h : PT X.nox e t) : PT X e t := fun pins s σ H Q I hw =>
  wpAny_mono (h pins s σ H Q (I.wish _) hw) (fun _ _ ⟨H', I', q⟩ => ⟨H', I'.unwish, q⟩) fun _ _ z => False.elim z
theorem PSs.nox {st : List Stmt} {t : TS} (h : PSs X.nox st t) : PSs X st t := fun pins s σ H D I hw =>
  wpAny_mono (h pins s σ H D (I.wish _) hw) (fun _ _ q => q.unwish) fun _ _ z => False.elim z
end
section
variable {X : Cx} {st : Stmt} {rest : List Stmt} {t u : TS} {e : Expr} {te : TE} {pos : Pos}
def tNext : TS := fun D σ H => D.nx σ H
def tSeq (t u : TS) : TS := fun D σ H => t { D with nx := u D } σ H
theorem pss_nil : PSs X [] tNext := fun _ _ σ H _ I h => wpAny_execs_nil ⟨σ, H, I, h⟩
theorem pss_cons (h1 : PS X st t) (h2 : PSs X rest u) : PSs X (st :: rest) (tSeq t u) := by
  intro pins s σ H D I h
  refine wpAny_execs_cons (thn (h1 pins s σ H { D with nx := u D } I h) fun f s1 q => ?_)
  cases f with
  | next =>
    obtain ⟨σ', H', I', q⟩ := q
    exact h2 pins s1 σ' H' D I' q
  | ret v => exact q
  | brk => exact q
  | cont => exact q
theorem pss_one (h1 : PS X st t) : PSs X [st] t := by
  intro pins s σ H D I h
  refine wpAny_execs_cons (thn (h1 pins s σ H D I h) fun f s1 q => ?_)
  cases f with
  | next => exact wpAny_execs_nil q
  | ret v => exact q
  | brk => exact q
  | cont => exact q
theorem Inv.quiet {pins : List (Addr × Obj)} {σ : St} {H : Hp} {s : Shared} (I : Inv X pins σ H s) : interactive X.env = false := by simp [interactive, I.ok.kind]
def tDrop (te : TE) : TS := fun D σ H => te σ H fun _ H1 => D.nx σ H1
theorem ps_expr (he : PE X e te) (hs : swapsWith e none pos.line X.env = pure false := by rfl) : PS X (.Expr e pos) (tDrop te) := by
  intro pins s σ H D I h
  exact wpAny_Expr_any (thn (he pins s σ H _ I h) fun v s1 ⟨x, H1, I1, r1, q1⟩ => ⟨σ, H1, I1, q1⟩) I.quiet hs
def tRet (te : TE) : TS := fun D σ H => te σ H D.rt
theorem ps_ret (he : PE X e te) : PS X (.Return (some e) pos) (tRet te) := by
  intro pins s σ H D I h
  exact wpAny_Return_some (thn (he pins s σ H _ I h) fun v s1 ⟨x, H1, I1, r1, q1⟩ => ⟨x, σ, H1, I1, r1, q1⟩)
def tIfS (c : TT) (t u : TS) : TS := fun D σ H => c σ H fun b H1 => if b = true then t D σ H1 else u D σ H1
theorem ps_if {c : Expr} {a b : List Stmt} {tc : TT} (hc : PT X c tc) (ha : PSs X a t) (hb : PSs X b u) : PS X (.If c a b pos) (tIfS tc t u) := by
  intro pins s σ H D I h
  refine wpAny_If (thn (hc pins s σ H _ I h) fun d s1 ⟨H1, I1, q1⟩ => ?_)
  cases d with
  | true => exact ha pins s1 σ H1 D I1 q1
  | false => exact hb pins s1 σ H1 D I1 q1
def tNever : TS := fun _ _ _ => False
theorem ps_never : PS X st tNever := fun _ _ _ _ _ _ h => h.elim
end
abbrev TG := V -> St -> Hp -> (St -> Hp -> Prop) -> Prop
abbrev TGs := List V -> St -> Hp -> (St -> Hp -> Prop) -> Prop
def PG (X : Cx) (target : Expr) (t : TG) : Prop :=
  ∀ (pins : List (Addr × Obj)) (s : Shared) (σ : St) (H : Hp) (v : V) (u : Value) (Q : St -> Hp -> Prop), Inv X pins σ H s -> RelV v u -> t v σ H Q ->
    wpAny (model X.prog X.w) X.A (assign target X.env u) (fun _ s' => ∃ σ' H', Inv X pins σ' H' s' /\ Q σ' H') X.xe s
def PGs (X : Cx) (ts : List Expr) (t : TGs) : Prop :=
  ∀ (pins : List (Addr × Obj)) (s : Shared) (σ : St) (H : Hp) (vs : List V) (us : List Value) (Q : St -> Hp -> Prop), Inv X pins σ H s -> Vals vs us -> t vs σ H Q ->
    wpAny (model X.prog X.w) X.A (assignInOrder ((assignEach ts X.env).map (·.2)) us) (fun _ s' => ∃ σ' H', Inv X pins σ' H' s' /\ Q σ' H') X.xe s
abbrev TSet := V -> V -> V -> Hp -> (Hp -> Prop) -> Prop
def PSet (X : Cx) (t : TSet) : Prop :=
  ∀ (pins : List (Addr × Obj)) (s : Shared) (σ : St) (H : Hp) (o i v : V) (ov iv u : Value) (Q : Hp -> Prop), Inv X pins σ H s -> RelV o ov -> RelV i iv -> RelV v u -> t o i v H Q ->
    wpAny (model X.prog X.w) X.A (setItem ov iv u) (fun _ s' => ∃ H', Inv X pins σ H' s' /\ Q H') X.xe s
section
variable {X : Cx} {pos : Pos}
def gName (i : Nat) : TG := fun v σ H Q => Q (σ.set i (some v)) H
theorem pg_name {i : Nat} {x : Str} (hN : X.N.Nodup) (hi : X.N[i]? = some x) (hx : Loc X.env.scope x) (hf : X.fn x = true ∨ X.env.scope.names.lookup x = some .local := by first | exact .inl rfl | exact .inr rfl | assumption) : PG X (.Name x pos) (gName i) := by
  intro pins s σ H v u Q I r h
  exact wpAny_assign_Name (store_ok I hN hi hx r (fun s' I' => ⟨_, H, I', h⟩) hf)
def gNil : TGs := fun vs σ H Q => vs = [] /\ Q σ H
def gCons (t : TG) (u : TGs) : TGs := fun vs σ H Q => ∃ v r, vs = v :: r /\ t v σ H fun σ' H' => u r σ' H' Q
theorem pgs_nil : PGs X [] gNil := by
  intro pins s σ H vs us Q I r h
  obtain ⟨e, h⟩ := h
  subst e
  cases r
  exact assignInOrder_nil ⟨σ, H, I, h⟩
theorem pgs_cons {e : Expr} {es : List Expr} {t : TG} {u : TGs} (h1 : PG X e t) (h2 : PGs X es u)
    (hs : (assignEach (e :: es) X.env).map (·.2) = assign e X.env :: (assignEach es X.env).map (·.2) := by rfl) : PGs X (e :: es) (gCons t u) := by
  intro pins s σ H vs us Q I r h
  obtain ⟨v, vr, e1, h⟩ := h
  subst e1
  cases r with
  | cons r rr =>
    rw [hs]
    refine assignInOrder_cons (thn (h1 pins s σ H _ _ _ I r h) fun _ s1 ⟨σ1, H1, I1, q1⟩ => ?_)
    exact h2 pins s1 σ1 H1 _ _ Q I1 rr q1
def gTup (K : PySem.W.Frag) (n : Nat) (t : TGs) : TG := fun v σ H Q => ∃ a xs, v = .ref a /\ SqT K H a xs /\ xs.length = n /\ t xs σ H Q
theorem pg_tup {es : List Expr} {k : Nat} {t : TGs} {n : Nat} (hc : X.calm = true) (h : PGs X es t)
    (hn : (assignEach es X.env).length = n := by rfl) (hst : (assignEach es X.env).findIdx? (·.1) = none := by rfl) : PG X (.Tuple es k pos) (gTup X.K n t) := by
  intro pins s σ H v u Q I r hw
  obtain ⟨a, xs, e1, hq, hl, hw⟩ := hw
  subst e1
  cases r
  obtain ⟨its, rv, ht, hz⟩ := I.tuple hq
  refine assign_Tuple_tuple (I.ok.hd hc) ht (by simp [hn, <- hl, rv.length]) hst fun h' hx => ?_
  have I1 : Inv X pins σ H { s with heap := h' } := I.kept (t' := s.toks) fun b o e => hx b o (Nat.ne_of_lt (Heap.lt_size e)) e
  exact h pins _ σ H xs _ Q I1 (by simpa using rv) hw
def gSub (to ti : TE) (t : TSet) : TG := fun v σ H Q => to σ H fun o H1 => ti σ H1 fun i H2 => t o i v H2 fun H3 => Q σ H3
theorem pg_sub {o i : Expr} {to ti : TE} {t : TSet} (ho : PE X o to) (hi : PE X i ti) (hs : PSet X t)
    (ha : ∀ v, assign (.Subscript o i pos) X.env v = (do
      let ov <- holding [v] (eval o X.env)
      let iv <- holding [v, ov] (eval i X.env)
      standAt pos
      holding [v, ov, iv] (setItem ov iv v)
      release [v, ov, iv] []) := by intro _; rfl) : PG X (.Subscript o i pos) (gSub to ti t) := by
  intro pins s σ H v u Q I r h
  rw [ha]
  refine wpAny_bind (wpAny_holding (thn (ho pins s σ H _ I h) fun ov s1 ⟨x, H1, I1, r1, q1⟩ => ?_))
  refine wpAny_bind (wpAny_holding (thn (hi pins s1 σ H1 _ I1 q1) fun iv s2 ⟨y, H2, I2, r2, q2⟩ => ?_))
  refine wpAny_bind (wpAny_standAt (wpAny_bind (wpAny_holding (thn (hs pins s2 σ H2 x y v ov iv u _ I2 r1 r2 r q2) fun _ s3 ⟨H3, I3, q3⟩ => ?_))))
  exact wpAny_release ⟨σ, H3, I3, q3⟩
def tAsg (te : TE) (g : TG) : TS := fun D σ H => te σ H fun x H1 => g x σ H1 D.nx
theorem ps_asg {tg e : Expr} {te : TE} {g : TG} (he : PE X e te) (hg : PG X tg g) (hs : swapsWithSole [tg] e pos.line X.env = pure false := by rfl) (hw : swappedStores [tg] e X.env = pure none := by rfl)
    (h1 : (assignEach [tg] X.env).map (·.2) = [assign tg X.env] := by rfl) : PS X (.Assign [tg] e pos) (tAsg te g) := by
  intro pins s σ H D I h
  refine wpAny_Assign_stores (thn (he pins s σ H _ I h) fun v s1 ⟨x, H1, I1, r1, q1⟩ => ?_) hs hw
  rw [h1]
  exact thn (hg pins s1 σ H1 x v _ I1 r1 q1) fun _ s2 q => q
theorem ps_set {i : Nat} {x : Str} {e : Expr} {te : TE} {pos' : Pos} (hN : X.N.Nodup) (hi : X.N[i]? = some x) (hx : Loc X.env.scope x) (he : PE X e te) (hs : swapsWith e (some (.Name x pos')) pos.line X.env = pure false := by rfl) (hf : X.fn x = true ∨ X.env.scope.names.lookup x = some .local := by first | exact .inl rfl | exact .inr rfl | assumption) :
    PS X (.Assign [.Name x pos'] e pos) (tAsg te (gName i)) := by
  intro pins s σ H D I h
  refine wpAny_Assign_Name (thn (he pins s σ H _ I h) fun v s1 ⟨y, H1, I1, r1, q1⟩ => ?_) hs
  exact store_ok I1 hN hi hx r1 (fun s2 I2 => ⟨_, H1, I2, q1⟩) hf
end
section
variable {X : Cx} {pos : Pos}
end
structure It where
  go : Nat -> Hp -> Prop
  yld : Nat -> Hp -> V -> Hp -> Prop
  stop : Nat -> Hp -> Prop
def FpOk (X : Cx) (pins : List (Addr × Obj)) (H : Hp) (b : Addr) : Prop :=
  H b = none /\ b ≠ X.env.locals /\ b ∉ X.fs /\ (b ∈ X.ex ∨ X.s₀.heap.objs.size <= b) /\ (∀ x c, X.env.cells.lookup x = some c -> c ≠ b) /\ ∀ p ∈ X.pn ++ pins, p.1 ≠ b
theorem Inv.fpOk {X : Cx} {pins : List (Addr × Obj)} {σ : St} {H H' : Hp} {s : Shared} {b : Addr} (I : Inv X pins σ H s) (hb : s.heap.objs.size <= b) (hn : H' b = none) : FpOk X pins H' b := by
  refine ⟨hn, Nat.ne_of_gt (Nat.lt_of_lt_of_le I.lt hb), I.nofs hb, .inr (Nat.le_trans I.sz hb), fun x c e z => ?_, fun p hp z => ?_⟩
  · obtain ⟨v, q⟩ := I.cell x c e
    exact absurd (Nat.lt_of_lt_of_le q.lt (by rw [z]; exact hb)) (Nat.lt_irrefl _)
  · exact absurd (Nat.lt_of_lt_of_le (Heap.lt_size (I.pin p hp).1) (by rw [z]; exact hb)) (Nat.lt_irrefl _)
structure Turn (P : Program) (w : World) (K : PySem.W.Frag) (tg : Expr) (J : It) (fp : List Addr) (it : Addr) (tn : Nat -> Heap -> Prop) : Prop where
  mem : it ∈ fp
  obj : ∀ i h, tn i h -> ∀ b ∈ fp, ∃ o, h.get? b = some o /\ ∀ v, o.data ≠ .cell v
  keep : ∀ i h h', tn i h -> (∀ b ∈ fp, ∀ o, h.get? b = some o -> h'.get? b = some o) -> tn i h'
  item : ∀ (X : Cx), X.prog = P -> X.w = w -> X.K = K -> X.calm = true -> ∀ (i : Nat) (pins : List (Addr × Obj)) (s : Shared) (σ : St) (H : Hp) (E : Value -> Shared -> Prop), Inv X pins σ H s -> (∀ b ∈ fp, FpOk X pins H b) -> tn i s.heap -> J.go i H ->
    wpAny (model P w) X.A (pyNext (.ref it)) (fun r s1 => ∃ u, r = some u /\
      wpAny (model P w) X.A (letOwnedTupleGo tg (.ref it) u) (fun _ s2 => ∃ x H', Inv X pins σ H' s2 /\ RelV x u /\ J.yld i H x H' /\ tn (i + 1) s2.heap /\ ∀ b ∈ fp, H' b = none) E s1) E s
  done : ∀ (X : Cx), X.prog = P -> X.w = w -> X.K = K -> X.calm = true -> ∀ (i : Nat) (pins : List (Addr × Obj)) (s : Shared) (σ : St) (H : Hp) (E : Value -> Shared -> Prop), Inv X pins σ H s -> (∀ b ∈ fp, FpOk X pins H b) -> tn i s.heap -> J.stop i H ->
    wpAny (model P w) X.A (pyNext (.ref it)) (fun r s1 => r = none /\ Inv X pins σ H s1) E s
  self : ∀ (A : Around) (i : Nat) (s : Shared) (Q : Value -> Shared -> Prop) (E : Value -> Shared -> Prop), tn i s.heap -> Q (.ref it) s -> wpAny (model P w) A (pyIter (.ref it)) Q E s
abbrev TI := St -> Hp -> (It -> Hp -> Prop) -> Prop
def PIE (X : Cx) (pins : List (Addr × Obj)) (σ : St) (tg : Expr) (R : It -> Hp -> Prop) (itv : Value) (s2 : Shared) : Prop :=
  ∃ (it : Addr) (fp : List Addr) (tn : Nat -> Heap -> Prop) (J : It) (H' : Hp), itv = .ref it /\ Inv X pins σ H' s2 /\ Turn X.prog X.w X.K tg J fp it tn /\ tn 0 s2.heap /\ (∀ b ∈ fp, FpOk X pins H' b) /\ R J H'
def PI (X : Cx) (tg iter : Expr) (wi : TI) : Prop :=
  ∀ (pins : List (Addr × Obj)) (s : Shared) (σ : St) (H : Hp) (R : It -> Hp -> Prop), Inv X pins σ H s -> wi σ H R ->
    wpAny (model X.prog X.w) X.A (eval iter X.env) (fun v s1 => wpAny (model X.prog X.w) X.A (pyIter v) (PIE X pins σ tg R) X.xe s1) X.xe s
theorem go_of {M : Model} {A : Around} {E : Value -> Shared -> Prop} {s : Shared} {tg : Expr} {it : Addr} {u : Value} {o : Obj} {n : String} {vs : Array Value} {Q : Unit -> Shared -> Prop} (ho : s.heap.get? it = some o) (hc : o.cls = .type n) (hd : o.data = .fields vs)
    (hn : ["enumerate", "zip", "dict_itemiterator", "dict_reverseitemiterator", "odict_iterator", "itertools.zip_longest", "itertools.pairwise"].contains n = false) (hQ : Q () s) : wpAny M A (letOwnedTupleGo tg (.ref it) u) Q E s := by
  unfold letOwnedTupleGo
  cases tg <;> first
    | exact wpAny_pure hQ
    | (cases u <;> first
        | exact wpAny_pure hQ
        | (refine wpAny_bind (wpAny_load ho ?_)
           rw [hc, hd]
           show wpAny M A (if (["enumerate", "zip", "dict_itemiterator", "dict_reverseitemiterator", "odict_iterator", "itertools.zip_longest", "itertools.pairwise"].contains n && vs[0]? == some (rawInt _)) = true then _ else _) Q E s
           rw [if_neg (by intro h; rw [hn, Bool.false_and] at h; cases h)]
           exact wpAny_pure hQ))
def Itl (K : PySem.W.Frag) (a : Addr) : It :=
  ⟨fun i H => ∃ xs x, SqL K H a xs /\ xs[i]? = some x, fun i H x H' => H' = H /\ ∀ xs, SqL K H a xs -> xs[i]? = some x, fun i H => ∃ xs, SqL K H a xs /\ xs.length <= i⟩
def Itr (lo : Int) (n : Nat) : It := ⟨fun i _ => i < n, fun i H x H' => H' = H /\ x = .int (lo + i), fun i _ => n <= i⟩
theorem turn_list {P : Program} {w : World} {K : PySem.W.Frag} {tg : Expr} (a it : Addr) : Turn P w K tg (Itl K a) [it] it (fun i h => h.IsListIter it a i) where
  mem := by simp
  obj := fun i h st b hb => by
    have e : b = it := by simpa using hb
    subst e
    obtain ⟨o, e, c, d⟩ := st
    exact ⟨o, e, fun v z => by rw [d] at z; cases z⟩
  keep := fun i h h' st k => st.at fun o e => k it (by simp) o e
  item := by
    intro X hP hw hK hc i pins s σ H E I hf st hg
    subst hP hw hK
    obtain ⟨xs, x, hq, hx⟩ := hg
    obtain ⟨its, rv, p, hz⟩ := I.list hq
    obtain ⟨u, hu, ru⟩ := rv.get hx
    obtain ⟨f0, f1, f2, f3, f4, f5⟩ := hf it (by simp)
    refine wpAny_pyNext_list_item st p.isList (x := u) (by simpa using hu) fun h' st' sb => ?_
    have I1 : Inv X pins σ H { s with heap := h' } := I.turned (t' := s.toks) (fun b o hb e => (sb.2 b hb).trans e) f0 f1 f3 f4 f5
    obtain ⟨o, e, c, d⟩ := id st'
    exact ⟨u, rfl, go_of (s := { s with heap := h' }) e c d (by decide) ⟨x, H, I1, ru, ⟨rfl, fun ys hy => by rw [I.list_inj hy hq]; exact hx⟩, st', fun b hb => (hf b hb).1⟩⟩
  done := by
    intro X hP hw hK hc i pins s σ H E I hf st hg
    subst hP hw hK
    obtain ⟨xs, hq, hx⟩ := hg
    obtain ⟨its, rv, p, hz⟩ := I.list hq
    obtain ⟨f0, f1, f2, f3, f4, f5⟩ := hf it (by simp)
    have hl := rv.length
    exact wpAny_pyNext_list_end (I.ok.hd hc) st p.isList (by simp; omega) fun h' eb => ⟨rfl, I.turned (t' := s.toks) (fun b o hb e => eb b o hb e) f0 f1 f3 f4 f5⟩
  self := fun _ _ _ _ _ st h => wpAny_pyIter_listiter st h
theorem turn_range {P : Program} {w : World} {K : PySem.W.Frag} {tg : Expr} (it : Addr) (lo : Int) (n : Nat) : Turn P w K tg (Itr lo n) [it] it (fun i h => IsRangeIter h it (lo + (i : Nat) * 1) ((n : Int) - (i : Nat)) 1) where
  mem := by simp
  obj := fun i h st b hb => by
    have e : b = it := by simpa using hb
    subst e
    exact ⟨_, st, fun v z => by
      have z' : Data.fields _ = Data.cell v := z
      cases z'⟩
  keep := fun i h h' st k => k it (by simp) _ st
  item := by
    intro X hP hw hK hc i pins s σ H E I hf st hg
    subst hP hw hK
    obtain ⟨f0, f1, f2, f3, f4, f5⟩ := hf it (by simp)
    have W := Walks.range (prog := X.prog) (w := X.w) (I.ok.hd hc) it lo 1 n
    refine W.item i s _ _ hg st fun v h' tk hv st' kk => ?_
    obtain ⟨t, rfl⟩ := hv
    have I1 : Inv X pins σ H { s with heap := h', toks := tk } := I.turned (fun b o hb e => kk b o (by simpa using hb) e) f0 f1 f3 f4 f5
    refine ⟨_, rfl, go_of (s := { s with heap := h', toks := tk }) (n := "range_iterator") st' rfl rfl (by decide) ⟨.int (lo + i), H, I1, ⟨t, ?_⟩, ⟨rfl, rfl⟩, st', fun b hb => (hf b hb).1⟩⟩
    rw [Int.mul_one]
  done := by
    intro X hP hw hK hc i pins s σ H E I hf st hg
    subst hP hw hK
    obtain ⟨f0, f1, f2, f3, f4, f5⟩ := hf it (by simp)
    exact wpAny_pyNext_range_end (I.ok.hd hc) st (by have : n <= i := hg; omega) fun h' eb => ⟨rfl, I.turned (t' := s.toks) (fun b o hb e => eb b o hb e) f0 f1 f3 f4 f5⟩
  self := fun _ _ _ _ _ st h => wpAny_pyIter_rangeiter st h
section
variable {X : Cx} {tg : Expr}
def iList (K : PySem.W.Frag) (tl : TE) : TI := fun σ H R => tl σ H fun x H1 => ∃ a, x = .ref a /\ (∃ xs, SqL K H1 a xs) /\ R (Itl K a) H1
theorem pi_list {l : Expr} {tl : TE} (hl : PE X l tl) : PI X tg l (iList X.K tl) := by
  intro pins s σ H R I h
  refine thn (hl pins s σ H _ I h) fun v s1 ⟨x, H1, I1, r1, q1⟩ => ?_
  obtain ⟨a, e, ⟨xs, hq⟩, q⟩ := q1
  subst e
  cases r1
  obtain ⟨its, rv, p, hz⟩ := I1.list hq
  refine wpAny_pyIter_list p.isList ?_
  refine ⟨s1.heap.objs.size, [s1.heap.objs.size], _, _, H1, rfl, I1.kept (t' := s1.toks) fun b o e => Heap.get?_push_of_some _ e, turn_list a _, ⟨_, Heap.get?_push_size _ rfl, rfl, rfl⟩, fun b hb => ?_, q⟩
  have e : b = s1.heap.objs.size := by simpa using hb
  subst e
  exact I1.fpOk (Nat.le_refl _) (I1.hok.fresh (Nat.le_refl _))
theorem range_it {pins : List (Addr × Obj)} {σ : St} {H : Hp} {s : Shared} {R : It -> Hp -> Prop} {E : Value -> Shared -> Prop} {lo hi : Int} {t u v : Tok} {tk : Nat} (I : Inv X pins σ H s) (h1 : -(2 ^ 62) <= lo) (h2 : lo < 2 ^ 62) (h3 : -(2 ^ 62) <= hi) (h4 : hi < 2 ^ 62)
    (q : R (Itr lo (hi - lo).toNat) H) : wpAny (model X.prog X.w) X.A (pyIter (.ref s.heap.objs.size)) (PIE X pins σ tg R) E { s with heap := s.heap.push { cls := .type "range", data := .fields #[.int lo t, .int hi u, .int 1 v] }, toks := tk } := by
  refine wpAny_pyIter_range (IsRange.new ..) (small_one h1 h2 h3 h4) ?_
  have I1 : Inv X pins σ H { s with heap := s.heap.push { cls := .type "range", data := .fields #[.int lo t, .int hi u, .int 1 v] }, toks := tk } := I.kept fun b o e => Heap.get?_push_of_some _ e
  refine ⟨(s.heap.push { cls := .type "range", data := .fields #[.int lo t, .int hi u, .int 1 v] }).objs.size, [(s.heap.push { cls := .type "range", data := .fields #[.int lo t, .int hi u, .int 1 v] }).objs.size], _, _, H, rfl,
    I1.kept (t' := tk) fun b o e => Heap.get?_push_of_some _ e, turn_range _ lo (hi - lo).toNat, ?_, fun b hb => ?_, q⟩
  · have e1 : lo + ((0 : Nat) : Int) * 1 = lo := by simp
    have e2 : (((hi - lo).toNat : Nat) : Int) - ((0 : Nat) : Int) = Builtin.Range.rangeSize lo hi 1 := by rw [rangeSize_one]; split <;> omega
    show IsRangeIter _ _ (lo + ((0 : Nat) : Int) * 1) ((((hi - lo).toNat : Nat) : Int) - ((0 : Nat) : Int)) 1
    rw [e1, e2]
    exact Heap.get?_push_size _ rfl
  · have e : b = (s.heap.push { cls := .type "range", data := .fields #[.int lo t, .int hi u, .int 1 v] }).objs.size := by simpa using hb
    subst e
    exact I1.fpOk (Nat.le_refl _) (I1.hok.fresh (Nat.le_refl _))
def iRng1 (ta : TA) : TI := fun σ H R => ta σ H fun vs H1 => ∃ j : Int, vs = [.int j] /\ -(2 ^ 62) <= j /\ j < 2 ^ 62 /\ R (Itr 0 j.toNat) H1
def iRng2 (ta : TA) : TI := fun σ H R => ta σ H fun vs H1 => ∃ i j : Int, vs = [.int i, .int j] /\ (-(2 ^ 62) <= i /\ i < 2 ^ 62 /\ -(2 ^ 62) <= j /\ j < 2 ^ 62) /\ R (Itr i (j - i).toNat) H1
theorem pi_range1 {a : Expr} {ta : TA} {p pos : Pos} (hg : Gl X "range") (hm : X.mg "range" = none) (ha : PA X [a] ta) (hs : starEach [a] X.env = [(false, eval a X.env)] := by rfl) : PI X tg (.Call (.Name "range" p) [a] [] pos) (iRng1 ta) := by
  intro pins s σ H R I h
  refine Call_ (ld_blt I hg hm boot_range (PyProof.Rows.callWith_type1 (thn (ha pos pins s σ H _ I h) fun us s1 ⟨vs, H1, I1, r1, q1⟩ => ?_) hs rfl))
  obtain ⟨j, e, q1, q2, q⟩ := q1
  subst e
  cases r1 with
  | cons r rr =>
    cases rr
    obtain ⟨t, rfl⟩ := r
    exact call_range_1 (range_it I1 (by omega) (by omega) q1 q2 (by simpa using q))
theorem pi_range2 {a b : Expr} {ta : TA} {p pos : Pos} (hg : Gl X "range") (hm : X.mg "range" = none) (ha : PA X [a, b] ta) (hs : starEach [a, b] X.env = [(false, eval a X.env), (false, eval b X.env)] := by rfl) (hs2 : starEach [b] X.env = [(false, eval b X.env)] := by rfl) :
    PI X tg (.Call (.Name "range" p) [a, b] [] pos) (iRng2 ta) := by
  intro pins s σ H R I h
  refine Call_ (ld_blt I hg hm boot_range (PyProof.Rows.callWith_type1 (thn (ha pos pins s σ H _ I h) fun us s1 ⟨vs, H1, I1, r1, q1⟩ => ?_) (by rw [hs, hs2]) (by rw [hs2]; rfl)))
  obtain ⟨i, j, e, ⟨q1, q2, q3, q4⟩, q⟩ := q1
  subst e
  cases r1 with
  | cons r rr =>
    cases rr with
    | cons r' rr =>
      cases rr
      obtain ⟨t, rfl⟩ := r
      obtain ⟨t', rfl⟩ := r'
      exact call_range_2 (range_it I1 q1 q2 q3 q4 q)
def tFor (wi : TI) (g : TG) (tb : TS) : TS := fun D σ H => wi σ H fun J H1 => ∃ W : Nat -> Nat -> St -> Hp -> Prop, (∃ m, W 0 m σ H1) /\ ∀ i m σ H, W i m σ H ->
  (J.stop i H /\ D.nx σ H) ∨ (J.go i H /\ ∃ N : St -> Hp -> Prop, (∀ σ' H', N σ' H' -> ∃ m', m' < m /\ W (i + 1) m' σ' H') /\ ∀ x H', J.yld i H x H' -> g x σ H' fun σ2 H2 => tb { D with nx := N, ct := N, bk := D.nx } σ2 H2)
def pinsAt (fp : List Addr) (h : Heap) : List (Addr × Obj) := fp.filterMap fun b => (h.get? b).map fun o => (b, o)
theorem mem_pinsAt {fp : List Addr} {h : Heap} {b : Addr} {o : Obj} (hb : b ∈ fp) (e : h.get? b = some o) : (b, o) ∈ pinsAt fp h := List.mem_filterMap.mpr ⟨b, hb, by rw [e]; rfl⟩
theorem of_pinsAt {fp : List Addr} {h : Heap} {p : Addr × Obj} (hp : p ∈ pinsAt fp h) : p.1 ∈ fp /\ h.get? p.1 = some p.2 := by
  obtain ⟨b, hb, e⟩ := List.mem_filterMap.mp hp
  cases q : h.get? b with
  | none => rw [q] at e; cases e
  | some o =>
    rw [q] at e
    have e' : (b, o) = p := Option.some.inj e
    subst e'
    exact ⟨hb, q⟩
theorem Inv.pinned {pins : List (Addr × Obj)} {σ : St} {H : Hp} {s : Shared} {fp : List Addr} (I : Inv X pins σ H s) (hf : ∀ b ∈ fp, FpOk X pins H b) (ho : ∀ b ∈ fp, ∃ o, s.heap.get? b = some o /\ ∀ v, o.data ≠ .cell v) : Inv X (pins ++ pinsAt fp s.heap) σ H s :=
  I.pins_of fun p hp => (List.mem_append.mp hp).elim (fun z => I.pin p (List.mem_append_right _ z)) fun z => by
    obtain ⟨hb, e⟩ := of_pinsAt z
    obtain ⟨f0, f1, f2, _⟩ := hf p.1 hb
    obtain ⟨o, e', d⟩ := ho p.1 hb
    rw [e] at e'; cases e'
    exact ⟨e, f0, f1, f2, d⟩
theorem Inv.unpinned {pins pl : List (Addr × Obj)} {σ : St} {H : Hp} {s : Shared} (I : Inv X (pins ++ pl) σ H s) : Inv X pins σ H s := I.pins_of fun p hp => I.pin p (List.mem_append_right _ (List.mem_append_left _ hp))
theorem ps_for {iter : Expr} {body : List Stmt} {wi : TI} {g : TG} {tb : TS} {pos : Pos} (hp : PassesOwn (model X.prog X.w) X.A X.env X.xe) (hc : X.calm = true) (hi : PI X tg iter wi) (hg : PG X tg g) (hb : PSs X body tb)
    (hs : ∀ x, foldedSetIterable iter X.env x = pure x := by intro _; rfl) : PS X (.For tg iter body [] pos) (tFor wi g tb) := by
  intro pins s σ H D I h
  refine wpAny_For (thn (hi pins s σ H _ I h) fun v s1 h1 => thn h1 fun itv s2 h2 => ?_) hs
  obtain ⟨it, fp, tn, J, H2, e, I2, T, st2, f2, W, ⟨m0, w0⟩, turn⟩ := h2
  subst e
  have stat : ∀ {H' : Hp}, (∀ b ∈ fp, H' b = none) -> ∀ b ∈ fp, FpOk X pins H' b := fun hn b hb => ⟨hn b hb, (f2 b hb).2⟩
  refine codeAny_forLoop_any (fun n s' => ∃ i σ' H', Inv X pins σ' H' s' /\ tn i s'.heap /\ (∀ b ∈ fp, H' b = none) /\ W i n σ' H') ?_ m0 ⟨0, σ, H2, I2, st2, fun b hb => (f2 b hb).1, w0⟩
  rintro n s3 ⟨i, σ3, H3, I3, st3, fr3, w3⟩
  rcases turn i n σ3 H3 w3 with ⟨stop, qn⟩ | ⟨go, N, hN, step⟩
  · refine wpAny_passesOwn hp (thn (T.done X rfl rfl rfl hc i pins s3 σ3 H3 X.xe I3 (stat fr3) st3 stop) fun r s4 ⟨hr, I4⟩ => ?_)
    subst hr
    exact wpAny_execs_nil ⟨σ3, H3, I4, qn⟩
  · refine wpAny_passesOwn hp (thn (T.item X rfl rfl rfl hc i pins s3 σ3 H3 X.xe I3 (stat fr3) st3 go) fun r s4 ⟨u, hr, h4⟩ => ?_)
    subst hr
    refine wpAny_passesOwn hp (thn h4 fun _ s5 ⟨x, H5, I5, r5, y5, st5, fr5⟩ => ?_)
    have I5' := I5.pinned (stat fr5) (T.obj _ _ st5)
    refine wpAny_passesOwn hp (thn (hg _ s5 σ3 H5 x u _ I5' r5 (step x H5 y5)) fun _ s6 ⟨σ6, H6, I6, q6⟩ => ?_)
    refine wpAny_passesOwn hp (thn (hb _ s6 σ6 H6 _ I6 q6) fun f s7 q7 => ?_)
    have again : ∀ {σ7 : St} {H7 : Hp}, Inv X (pins ++ pinsAt fp s5.heap) σ7 H7 s7 -> N σ7 H7 -> ∃ m, m < n /\ ∃ i σ' H', Inv X pins σ' H' s7 /\ tn i s7.heap /\ (∀ b ∈ fp, H' b = none) /\ W i m σ' H' := fun {σ7 H7} I7 n7 => by
      obtain ⟨m', hm, w7⟩ := hN σ7 H7 n7
      refine ⟨m', hm, i + 1, σ7, H7, I7.unpinned, T.keep _ _ _ st5 fun b hb o e => (I7.pin (b, o) (List.mem_append_right _ (List.mem_append_right _ (mem_pinsAt hb e)))).1, fun b hb => ?_, w7⟩
      obtain ⟨o, e, d⟩ := T.obj _ _ st5 b hb
      exact (I7.pin (b, o) (List.mem_append_right _ (List.mem_append_right _ (mem_pinsAt hb e)))).2.1
    cases f with
    | next => obtain ⟨σ7, H7, I7, n7⟩ := q7; exact again I7 n7
    | cont => obtain ⟨σ7, H7, I7, n7⟩ := q7; exact again I7 n7
    | brk => obtain ⟨σ7, H7, I7, q7⟩ := q7; exact ⟨σ7, H7, I7.unpinned, q7⟩
    | ret v => obtain ⟨x7, σ7, H7, I7, r7, q7⟩ := q7; exact ⟨x7, σ7, H7, I7.unpinned, r7, q7⟩
end
abbrev R2 := V -> V -> Hp -> VK -> Prop
def OpR (X : Cx) (f : Value -> Value -> Sem Value) (r : R2) : Prop :=
  ∀ (pins : List (Addr × Obj)) (s : Shared) (σ : St) (H : Hp) (x y : V) (v u : Value) (Q : VK), Inv X pins σ H s -> RelV x v -> RelV y u -> r x y H Q ->
    wpAny (model X.prog X.w) X.A (f v u) (EP X pins σ Q) X.xe s
def UnR (X : Cx) (f : Value -> Sem Value) (r : V -> Hp -> VK -> Prop) : Prop :=
  ∀ (pins : List (Addr × Obj)) (s : Shared) (σ : St) (H : Hp) (x : V) (v : Value) (Q : VK), Inv X pins σ H s -> RelV x v -> r x H Q ->
    wpAny (model X.prog X.w) X.A (f v) (EP X pins σ Q) X.xe s
def CallR (X : Cx) (f : Value) (r : List V -> Hp -> VK -> Prop) : Prop :=
  ∀ (pins : List (Addr × Obj)) (s : Shared) (σ : St) (H : Hp) (xs : List V) (us : List Value) (Q : VK), Inv X pins σ H s -> Vals xs us -> r xs H Q ->
    wpAny (model X.prog X.w) X.A (call f us) (EP X pins σ Q) X.xe s
def TruR (X : Cx) (r : V -> Hp -> (Bool -> Hp -> Prop) -> Prop) : Prop :=
  ∀ (pins : List (Addr × Obj)) (s : Shared) (σ : St) (H : Hp) (x : V) (v : Value) (Q : Bool -> Hp -> Prop), Inv X pins σ H s -> RelV x v -> r x H Q ->
    wpAny (model X.prog X.w) X.A (truthy v) (TP X pins σ Q) X.xe s
def tOp (r : R2) (ta tb : TE) : TE := fun σ H Q => ta σ H fun x H1 => tb σ H1 fun y H2 => r x y H2 Q
def tUn (r : V -> Hp -> VK -> Prop) (ta : TE) : TE := fun σ H Q => ta σ H fun x H1 => r x H1 Q
def rI (C : Int -> Int -> Prop) (g : Int -> Int -> V) : R2 := fun x y H Q => ∃ i j, x = .int i /\ y = .int j /\ C i j /\ Q (g i j) H
def rI0 (g : Int -> Int -> V) : R2 := fun x y H Q => ∃ i j, x = .int i /\ y = .int j /\ Q (g i j) H
def rU (g : Int -> V) : V -> Hp -> VK -> Prop := fun x H Q => ∃ i, x = .int i /\ Q (g i) H
section
variable {X : Cx} {a b c : Expr} {ta tb tc : TE} {pos : Pos}
theorem binT (ha : PE X a ta) (hb : PE X b tb) {pins : List (Addr × Obj)} {s : Shared} {σ : St} {H : Hp} {R : V -> V -> Hp -> Prop} (I : Inv X pins σ H s)
    (h : ta σ H fun x H1 => tb σ H1 fun y H2 => R x y H2) {Q : Value -> Shared -> Prop} {f : Value -> Value -> Sem Value}
    (hf : ∀ v u s2 x y H2, Inv X pins σ H2 s2 -> RelV x v -> RelV y u -> R x y H2 -> wpAny (model X.prog X.w) X.A (f v u) Q X.xe s2) :
    wpAny (model X.prog X.w) X.A (eval a X.env) (fun v s₁ => wpAny (model X.prog X.w) X.A (eval b X.env) (fun u s₂ => wpAny (model X.prog X.w) X.A (f v u) Q X.xe s₂) X.xe s₁) X.xe s := by
  refine thn (ha pins s σ H _ I h) fun v s1 ⟨x, H1, I1, r1, q1⟩ => ?_
  refine thn (hb pins s1 σ H1 _ I1 q1) fun u s2 ⟨y, H2, I2, r2, q2⟩ => ?_
  exact hf v u s2 x y H2 I2 r1 r2 q2
theorem pe_op {op : Operator} {r : R2} (ho : OpR X (binaryOp op) r) (ha : PE X a ta) (hb : PE X b tb) : PE X (.BinOp a op b pos) (tOp r ta tb) := by
  intro pins s σ H Q I h
  exact wpAny_BinOp (binT ha hb I h fun v u s2 x y H2 I2 rx ry q => ho pins s2 σ H2 x y v u Q I2 rx ry q)
theorem pe_un {op : UnaryOp} {r : V -> Hp -> VK -> Prop} (ho : UnR X (unaryOp op) r) (ha : PE X a ta) : PE X (.UnaryOp op a pos) (tUn r ta) := by
  intro pins s σ H Q I h
  exact UnaryOp_ (thn (ha pins s σ H _ I h) fun v s1 ⟨x, H1, I1, r1, q1⟩ => ho pins s1 σ H1 x v Q I1 r1 q1)
theorem opI {f : Value -> Value -> Sem Value} {C : Int -> Int -> Prop} {g : Int -> Int -> Int}
    (rule : ∀ (i j : Int) (t u : Tok) (s : Shared) (Q : Value -> Shared -> Prop) (E : Value -> Shared -> Prop), C i j -> Q (.int (g i j) s.toks) { s with toks := s.toks + 1 } -> wpAny (model X.prog X.w) X.A (f (.int i t) (.int j u)) Q E s) :
    OpR X f (rI C fun i j => .int (g i j)) := by
  intro pins s σ H x y v u Q I rx ry h
  obtain ⟨i, j, rfl, rfl, hc, q⟩ := h
  obtain ⟨t, rfl⟩ := rx
  obtain ⟨t', rfl⟩ := ry
  exact rule i j t t' s _ _ hc ⟨.int (g i j), H, I.tok _, ⟨_, rfl⟩, q⟩
theorem opI0 {f : Value -> Value -> Sem Value} {g : Int -> Int -> Int}
    (rule : ∀ (i j : Int) (t u : Tok) (s : Shared) (Q : Value -> Shared -> Prop) (E : Value -> Shared -> Prop), Q (.int (g i j) s.toks) { s with toks := s.toks + 1 } -> wpAny (model X.prog X.w) X.A (f (.int i t) (.int j u)) Q E s) :
    OpR X f (rI0 fun i j => .int (g i j)) := by
  intro pins s σ H x y v u Q I rx ry h
  obtain ⟨i, j, rfl, rfl, q⟩ := h
  obtain ⟨t, rfl⟩ := rx
  obtain ⟨t', rfl⟩ := ry
  exact rule i j t t' s _ _ ⟨.int (g i j), H, I.tok _, ⟨_, rfl⟩, q⟩
theorem opB0 {f : Value -> Value -> Sem Value} {g : Int -> Int -> Bool}
    (rule : ∀ (i j : Int) (t u : Tok) (s : Shared) (Q : Value -> Shared -> Prop) (E : Value -> Shared -> Prop), Q (.bool (g i j)) s -> wpAny (model X.prog X.w) X.A (f (.int i t) (.int j u)) Q E s) :
    OpR X f (rI0 fun i j => .bl (g i j)) := by
  intro pins s σ H x y v u Q I rx ry h
  obtain ⟨i, j, rfl, rfl, q⟩ := h
  obtain ⟨t, rfl⟩ := rx
  obtain ⟨t', rfl⟩ := ry
  exact rule i j t t' s _ _ ⟨.bl (g i j), H, I, rfl, q⟩
def CDiv (i j : Int) : Prop := 0 < j /\ j < 1073741824
def CPow (i j : Int) : Prop := 0 <= j /\ j <= 1000000 /\ i.natAbs < 2 ^ 64
def CMul (i j : Int) : Prop := (-(2 ^ 64) < i /\ i < 2 ^ 64) ∨ (-(2 ^ 64) < j /\ j < 2 ^ 64)
theorem CMul.ok {i j : Int} (h : CMul i j) : IntMulOk i j := by
  rcases h with ⟨h1, h2⟩ | ⟨h1, h2⟩
  · exact .of_left (intBits_le_64 h1 h2)
  · exact .of_right (intBits_le_64 h1 h2)
theorem two_pow_nn (k : Nat) : (0 : Int) <= 2 ^ k := by
  rw [two_pow_cast]
  exact Int.natCast_nonneg _
theorem op_add : OpR X (binaryOp .Add) (rI0 fun i j => .int (i + j)) := opI0 fun _ _ _ _ _ _ _ q => add_int q
theorem op_sub : OpR X (binaryOp .Sub) (rI0 fun i j => .int (i - j)) := opI0 fun _ _ _ _ _ _ _ q => sub_int q
theorem op_mul : OpR X (binaryOp .Mult) (rI CMul fun i j => .int (i * j)) := opI fun _ _ _ _ _ _ _ hc q => mul_int q hc.ok
theorem op_fdiv : OpR X (binaryOp .FloorDiv) (rI CDiv fun i j => .int (i / j)) := opI fun i j _ _ _ _ _ hc q => by
  have h1 : (0 : Int) < j := hc.1
  have h2 : j < 1073741824 := hc.2
  exact floordiv_int (by omega) (by rw [Int.fdiv_eq_ediv_of_nonneg i (by omega)]; exact q) (.inl (PyProof.noPylong_small (by omega)))
theorem op_mod : OpR X (binaryOp .Mod) (rI (fun _ j => 0 < j) fun i j => .int (i % j)) := opI fun i j _ _ _ _ _ hc q => by
  have h1 : (0 : Int) < j := hc
  exact mod_int' (by omega) (by rw [Int.fmod_eq_emod_of_nonneg i (by omega)]; exact q)
theorem op_pow : OpR X (binaryOp .Pow) (rI CPow fun i j => .int (i ^ j.toNat)) := opI fun _ _ _ _ _ _ _ hc q => pow_int_small hc.1 hc.2.1 hc.2.2 q
theorem op_shr : OpR X (binaryOp .RShift) (rI (fun _ j => 0 <= j) fun i j => .int (i / 2 ^ j.toNat)) := opI fun i j _ _ _ _ _ hc q =>
  rshift_int hc (by rw [Int.fdiv_eq_ediv_of_nonneg i (two_pow_nn _)]; exact q)
theorem op_and : OpR X (binaryOp .BitAnd) (rI0 fun i j => .int (Builtin.bitAnd i j)) := opI0 fun _ _ _ _ _ _ _ q => and_int q
theorem unI {f : Value -> Sem Value} {g : Int -> Int}
    (rule : ∀ (i : Int) (t : Tok) (s : Shared) (Q : Value -> Shared -> Prop) (E : Value -> Shared -> Prop), Q (.int (g i) s.toks) { s with toks := s.toks + 1 } -> wpAny (model X.prog X.w) X.A (f (.int i t)) Q E s) :
    UnR X f (rU fun i => .int (g i)) := by
  intro pins s σ H x v Q I rx h
  obtain ⟨i, rfl, q⟩ := h
  obtain ⟨t, rfl⟩ := rx
  exact rule i t s _ _ ⟨.int (g i), H, I.tok _, ⟨_, rfl⟩, q⟩
theorem un_neg : UnR X (unaryOp .USub) (rU fun i => .int (-i)) := unI fun _ _ _ _ _ q => neg_int q
end
def scal : V -> V -> Bool
  | .non, .non => true | .non, .int _ => true | .int _, .non => true | .non, .bl _ => true | .bl _, .non => true | .non, .str _ => true | .str _, .non => true
  | .int _, .int _ => true | .bl _, .bl _ => true | .str _, .str _ => true | .byt _, .byt _ => true
  | .int _, .str _ => true | .str _, .int _ => true | .bl _, .str _ => true | .str _, .bl _ => true
  | _, _ => false
section
variable {X : Cx} {a b c : Expr} {ta tb tc : TE} {pos : Pos}
theorem fin_bl {pins : List (Addr × Obj)} {σ : St} {H : Hp} {s : Shared} {Q : VK} {k k' : Bool} (I : Inv X pins σ H s) (q : Q (.bl k) H) (e : k = k') : EP X pins σ Q (.bool k') s := by
  subst e
  exact ⟨.bl k, H, I, rfl, q⟩
theorem op_lt : OpR X (compareOp .Lt) (rI0 fun i j => .bl (decide (i < j))) := opB0 fun _ _ _ _ _ _ _ q => lt_int q
theorem op_le : OpR X (compareOp .LtE) (rI0 fun i j => .bl (decide (i <= j))) := opB0 fun _ _ _ _ _ _ _ q => le_int q
theorem op_gt : OpR X (compareOp .Gt) (rI0 fun i j => .bl (decide (j < i))) := opB0 fun _ _ _ _ _ _ _ q => gt_int q
theorem op_in_str : OpR X (compareOp .In) (fun x y H Q => ∃ i j, x = .str i /\ y = .str j /\ Q (.bl (!(Builtin.Str.occurrences j i 0 j.length 1).isEmpty)) H) := by
  intro pins s σ H x y v u Q I rx ry h
  obtain ⟨i, j, rfl, rfl, q⟩ := h
  obtain ⟨t, rfl⟩ := rx
  obtain ⟨t', rfl⟩ := ry
  exact in_str (fin_bl I q rfl)
theorem op_isN : OpR X (compareOp .Is) (fun x y H Q => y = .non /\ Q (.bl (decide (x = .non))) H) := by
  intro pins s σ H x y v u Q I rx ry h
  obtain ⟨rfl, q⟩ := h
  cases ry
  refine is_none_gen (fin_bl I q ?_)
  cases x <;> first
    | (cases rx; rfl)
    | (obtain ⟨t, rfl⟩ := rx; rfl)
theorem OpR.or {f : Value -> Value -> Sem Value} {r r' : R2} (h : OpR X f r) (h' : OpR X f r') : OpR X f (fun x y H Q => r x y H Q ∨ r' x y H Q) := by
  intro pins s σ H x y v u Q I rx ry q
  rcases q with q | q
  · exact h pins s σ H x y v u Q I rx ry q
  · exact h' pins s σ H x y v u Q I rx ry q
theorem nomark (b : Expr) {op : CmpOp} (h : op ≠ .In := by decide) (h2 : op ≠ .NotIn := by decide) : behindInMarks op b = false := by
  have e1 : (op == CmpOp.In) = false := by cases op <;> first | rfl | exact absurd rfl h
  have e2 : (op == CmpOp.NotIn) = false := by cases op <;> first | rfl | exact absurd rfl h2
  cases b <;> simp [behindInMarks, e1, e2]
theorem pe_cmpR {op : CmpOp} {r : R2} (ho : OpR X (compareOp op) r) (ha : PE X a ta) (hb : PE X b tb) (hm : behindInMarks op b = false) : PE X (.Compare a [op] [b] pos) (tOp r ta tb) := by
  intro pins s σ H Q I h
  exact wpAny_Compare1 (binT ha hb I h fun v u s2 x y H2 I2 rx ry q => ho pins s2 σ H2 x y v u Q I2 rx ry q) hm
def tTest (t : TE) : TT := fun σ H Q => t σ H fun x H' => ∃ k, x = .bl k /\ Q k H'
theorem pt_cmpR {op : CmpOp} {r : R2} (ho : OpR X (compareOp op) r) (ha : PE X a ta) (hb : PE X b tb) (hm : behindInMarks op b = false) : PT X (.Compare a [op] [b] pos) (tTest (tOp r ta tb)) := by
  intro pins s σ H Q I h
  refine wpAny_isTrue_Compare1 (thn (ha pins s σ H _ I h) fun v s1 ⟨x, H1, I1, r1, q1⟩ => thn (hb pins s1 σ H1 _ I1 q1) fun u s2 ⟨y, H2, I2, r2, q2⟩ =>
    thn (ho pins s2 σ H2 x y v u _ I2 r1 r2 q2) fun c s3 ⟨z, H3, I3, r3, k, e, q3⟩ => ?_) hm
  subst e
  cases r3
  exact wpAny_truthy_bool ⟨H3, I3, q3⟩
def tChain (r r' : R2) (ta tb tc : TE) : TE := fun σ H Q => ta σ H fun x H1 => tb σ H1 fun y H2 => r x y H2 fun z H3 => ∃ k, z = .bl k /\
  (if k = true then tc σ H3 fun w' H4 => r' y w' H4 Q else Q (.bl false) H3)
theorem pt_chain {op op' : CmpOp} {r r' : R2} (ho : OpR X (compareOp op) r) (ho' : OpR X (compareOp op') r') (ha : PE X a ta) (hb : PE X b tb) (hc : PE X c tc)
    (hm : lastMarks [op, op'] [b, c] = false := by with_unfolding_all rfl) : PT X (.Compare a [op, op'] [b, c] pos) (tTest (tChain r r' ta tb tc)) := by
  intro pins s σ H Q I h
  refine isTrue_chain (thn (ha pins s σ H _ I h) fun v s1 ⟨x, H1, I1, r1, q1⟩ => test_link (thn (hb pins s1 σ H1 _ I1 q1) fun u s2 ⟨y, H2, I2, r2, q2⟩ =>
    thn (ho pins s2 σ H2 x y v u _ I2 r1 r2 q2) fun d s3 ⟨z, H3, I3, r3, k, e, q3⟩ => ?_)) hm
  subst e
  cases r3
  refine wpAny_truthy_bool ?_
  cases k with
  | false =>
    obtain ⟨k', e', q'⟩ := q3
    cases e'
    exact ite_ff ⟨H3, I3, q'⟩
  | true =>
    refine ite_tt (test_last (thn (hc pins s3 σ H3 _ I3 q3) fun w' s4 ⟨z', H4, I4, r4, q4⟩ => thn (ho' pins s4 σ H4 y z' u w' _ I4 r2 r4 q4) fun d' s5 ⟨z2, H5, I5, r5, k2, e2, q5⟩ => ?_))
    subst e2
    cases r5
    exact wpAny_truthy_bool ⟨H5, I5, q5⟩
def TruV (K : PySem.W.Frag) (x : V) (H : Hp) (k : Bool) : Prop :=
  match x with
  | .non => k = false
  | .bl b => k = b
  | .int i => k = (i != 0)
  | .str y => y.length <= sizeLine /\ k = ((y.length : Int) != 0)
  | .byt y => y.size <= sizeLine /\ k = ((y.size : Int) != 0)
  | .ref p => (∃ xs, SqL K H p xs /\ k = !xs.isEmpty) ∨ (∃ xs, SqT K H p xs /\ k = !xs.isEmpty) ∨ ∃ kvs, H p = some (.dK kvs) /\ k = !kvs.isEmpty
  | _ => False
theorem isEmpty_kv {κ : Type} {kvs : List (κ × V)} {vs : List (κ × Value)} (r : KV kvs vs) : (!vs.isEmpty) = !kvs.isEmpty := by
  cases r <;> rfl
theorem isEmpty_of {xs : List V} {its : List Value} (r : Vals xs its) : (!its.toArray.isEmpty) = !xs.isEmpty := by
  cases r <;> simp
theorem line63 : (sizeLine : Nat) < 2 ^ 63 := by rw [sizeLine_eq]; decide
theorem tru_ok : TruR X (fun x H Q => ∃ k, TruV X.K x H k /\ Q k H) := by
  intro pins s σ H x v Q I rx h
  obtain ⟨k, e, q⟩ := h
  have hl := line63
  have hs : sizeLine = 16777216 := sizeLine_eq
  cases x with
  | non =>
    cases rx
    have e' : k = false := e
    subst e'
    exact truthy_none ⟨H, I, q⟩
  | bl b =>
    cases rx
    have e' : k = b := e
    subst e'
    exact wpAny_truthy_bool ⟨H, I, q⟩
  | int i =>
    obtain ⟨t, rfl⟩ := rx
    have e' : k = (i != 0) := e
    subst e'
    exact PySem.P.truthy_int ⟨H, I, q⟩
  | str y =>
    obtain ⟨t, rfl⟩ := rx
    obtain ⟨hy, e'⟩ : y.length <= sizeLine /\ k = ((y.length : Int) != 0) := e
    subst e'
    exact PySem.P.truthy_str (by omega) ⟨H, I.tok _, q⟩
  | byt y =>
    obtain ⟨t, rfl⟩ := rx
    obtain ⟨hy, e'⟩ : y.size <= sizeLine /\ k = ((y.size : Int) != 0) := e
    subst e'
    exact PySem.W.truthy_bytes (by omega) ⟨H, I.tok _, q⟩
  | ref p =>
    cases rx
    have e' : (∃ xs, SqL X.K H p xs /\ k = !xs.isEmpty) ∨ (∃ xs, SqT X.K H p xs /\ k = !xs.isEmpty) ∨ ∃ kvs, H p = some (.dK kvs) /\ k = !kvs.isEmpty := e
    rcases e' with ⟨xs, hx, e'⟩ | ⟨xs, hx, e'⟩ | ⟨kvs, hx, e'⟩
    · subst e'
      obtain ⟨its, r, pl, hz⟩ := I.list hx
      have hlen := r.length
      exact wpAny_truthy_list pl.isList (by simp only [List.size_toArray]; omega) ⟨H, I.tok _, by rw [isEmpty_of r]; exact q⟩
    · subst e'
      obtain ⟨its, r, pl, hz⟩ := I.tuple hx
      have hlen := r.length
      exact truthy_tuple pl (by simp only [List.size_toArray]; omega) ⟨H, I.tok _, by rw [isEmpty_of r]; exact q⟩
    · subst e'
      obtain ⟨hz, hS, vs, r, m⟩ : kvs.length <= sizeLine /\ (p == sysModules) = false /\ ∃ vs, KV kvs vs /\ s.heap.DictOf (mixKind X.prog X.w) p vs := I.hok p _ hx
      have hlen : kvs.length = vs.length := Paired.length r
      exact wpAny_truthy_dict hS m (by omega) ⟨H, I.tok _, by rw [isEmpty_kv r]; exact q⟩
  | _ => exact (show False from e).elim
theorem pt_truth (ha : PE X a ta) (he : ∀ whole, isTrue a X.env whole = (do let v <- whole; standAt a.pos; holding [v] (truthy v))) :
    PT X a (fun σ H Q => ta σ H fun x H' => ∃ k, TruV X.K x H' k /\ Q k H') := by
  intro pins s σ H Q I h
  exact isTrue_plain (thn (ha pins s σ H _ I h) fun v s1 ⟨x, H1, I1, r1, q1⟩ => tru_ok pins s1 σ H1 x v Q I1 r1 q1) (he _)
theorem op_add_str : OpR X (binaryOp .Add) (fun x y H Q => ∃ i j, x = .str i /\ y = .str j /\ i.length + j.length <= sizeLine /\ Q (.str (i ++ j)) H) := by
  intro pins s σ H x y v u Q I rx ry h
  obtain ⟨i, j, rfl, rfl, hz, q⟩ := h
  obtain ⟨t, rfl⟩ := rx
  obtain ⟨t', rfl⟩ := ry
  exact add_str (fun t' tk => ⟨.str (i ++ j), H, I.tok _, ⟨_, rfl⟩, q⟩) hz
theorem vals1 {x : V} {us : List Value} (r : Vals [x] us) : ∃ u, us = [u] /\ RelV x u := by
  cases r with
  | cons r1 r2 => cases r2; exact ⟨_, rfl, r1⟩
theorem vals2 {x y : V} {us : List Value} (r : Vals [x, y] us) : ∃ u w', us = [u, w'] /\ RelV x u /\ RelV y w' := by
  cases r with
  | cons r1 r2 =>
    cases r2 with
    | cons r3 r4 => cases r4; exact ⟨_, _, rfl, r1, r3⟩
theorem call_max2 (hc : X.calm = true) : CallR X (.builtin "max") (fun xs H Q => ∃ i j, xs = [.int i, .int j] /\ Q (.int (if j > i then j else i)) H) := by
  intro pins s σ H xs us Q I r h
  obtain ⟨i, j, rfl, q⟩ := h
  obtain ⟨u, w', rfl, ⟨t, rfl⟩, ⟨t', rfl⟩⟩ := vals2 r
  refine max_two_ints (I.ok.hd hc) fun h' tk k => ⟨_, H, I.kept k, ?_, q⟩
  by_cases hj : j > i
  · rw [if_pos hj, if_pos hj]; exact ⟨_, rfl⟩
  · rw [if_neg hj, if_neg hj]; exact ⟨_, rfl⟩
theorem call_min2 (hc : X.calm = true) : CallR X (.builtin "min") (fun xs H Q => ∃ i j, xs = [.int i, .int j] /\ Q (.int (if j < i then j else i)) H) := by
  intro pins s σ H xs us Q I r h
  obtain ⟨i, j, rfl, q⟩ := h
  obtain ⟨u, w', rfl, ⟨t, rfl⟩, ⟨t', rfl⟩⟩ := vals2 r
  refine min_two_ints (I.ok.hd hc) fun h' tk k => ⟨_, H, I.kept k, ?_, q⟩
  by_cases hj : j < i
  · rw [if_pos hj, if_pos hj]; exact ⟨_, rfl⟩
  · rw [if_neg hj, if_neg hj]; exact ⟨_, rfl⟩
def LenV (K : PySem.W.Frag) (x : V) (H : Hp) (n : Nat) : Prop :=
  match x with
  | .str y => y.length <= sizeLine /\ n = y.length
  | .byt y => y.size <= sizeLine /\ n = y.size
  | .ref p => (∃ xs, SqL K H p xs /\ n = xs.length) ∨ ∃ xs, SqT K H p xs /\ n = xs.length
  | _ => False
theorem call_len : CallR X (.builtin "len") (fun xs H Q => ∃ x n, xs = [x] /\ LenV X.K x H n /\ Q (.int n) H) := by
  intro pins s σ H xs us Q I r h
  obtain ⟨x, n, rfl, e, q⟩ := h
  obtain ⟨u, rfl, rx⟩ := vals1 r
  have hl := line63
  have hs : sizeLine = 16777216 := sizeLine_eq
  cases x with
  | str y =>
    obtain ⟨t, rfl⟩ := rx
    obtain ⟨hy, e'⟩ : y.length <= sizeLine /\ n = y.length := e
    subst e'
    exact len_str (by omega) ⟨.int _, H, I.tok _, ⟨_, rfl⟩, q⟩
  | byt y =>
    obtain ⟨t, rfl⟩ := rx
    obtain ⟨hy, e'⟩ : y.size <= sizeLine /\ n = y.size := e
    subst e'
    exact PySem.W.len_bytes (by omega) ⟨.int _, H, I.tok _, ⟨_, rfl⟩, q⟩
  | ref p =>
    cases rx
    have e' : (∃ xs, SqL X.K H p xs /\ n = xs.length) ∨ ∃ xs, SqT X.K H p xs /\ n = xs.length := e
    rcases e' with ⟨xs, hx, e'⟩ | ⟨xs, hx, e'⟩
    · subst e'
      obtain ⟨its, r', pl, hz⟩ := I.list hx
      have hlen := r'.length
      exact Calls.call_len_list pl.isList (by simp only [List.size_toArray]; omega) ⟨.int xs.length, H, I.tok _, ⟨_, by simp only [List.size_toArray]; rw [hlen]⟩, q⟩
    · subst e'
      obtain ⟨its, r', pl, hz⟩ := I.tuple hx
      have hlen := r'.length
      exact len_tuple pl (by simp only [List.size_toArray]; omega) ⟨.int xs.length, H, I.tok _, ⟨_, by simp only [List.size_toArray]; rw [hlen]⟩, q⟩
  | _ => exact (show False from e).elim
end
structure ObjM (h : Heap) (x dx C : Addr) (mA : Str -> Option Value) : Prop where
  obj : h.get? x = some (PySem.W.instObj C dx)
  ns : h.Ns1 dx mA
  ne : dx ≠ x
theorem lookIn_ns {h : Heap} {dx : Addr} {mA : Str -> Option Value} (n : h.Ns1 dx mA) : ∃ od, h.get? dx = some od /\ ∀ name, PySem.W.lookIn name od = some (mA name) := by
  obtain ⟨o, es, ep, ho, hd, hk, _, hm⟩ := n
  refine ⟨o, ho, fun name => ?_⟩
  have e := hm name
  unfold nsFind findBy at e
  rw [<- Array.find?_toList] at e
  unfold PySem.W.lookIn
  rw [hd]
  dsimp only
  split
  · rename_i y q
    rw [q] at e
    exact congrArg some e
  · rename_i q
    rw [q] at e
    have a : es.toList.any (·.refKey) = false := by
      rw [List.any_eq_false]
      intro y hy
      obtain ⟨z, t, hkey⟩ := hk y (Array.mem_toList_iff.mp hy)
      simp [DictEntry.refKey, hkey]
    have a' : ¬ es.toList.any (·.refKey) = true := by rw [a]; exact Bool.false_ne_true
    rw [if_neg a']
    exact congrArg some e
theorem ObjM.look {h : Heap} {x dx C : Addr} {mA : Str -> Option Value} (I : ObjM h x dx C mA) : ∃ od, PySem.W.InstAt h x (PySem.W.instObj C dx) C (some od) /\ ∀ name, PySem.W.lookIn name od = some (mA name) :=
  let ⟨od, ho, hl⟩ := lookIn_ns I.ns
  ⟨od, ⟨I.obj, rfl, rfl, ho⟩, hl⟩
section
variable {prog : Program} {w : World} {A : Around} {E : Value -> Shared -> Prop} {s : Shared} {K : PySem.W.Frag} {x dx C f : Addr} {mA : Str -> Option Value} {name : Str} {v : Value}
end
section
variable {P : Program} {w : World} {H H' : Hp} {h h' : Heap} {a C dx : Addr} {fs fs' : List (Str × V)}
theorem ins_get (hok : HOk P w H h) (e : H a = some (.ins C dx fs)) : ∃ mA, ObjM h a dx C mA /\ (∀ f, RelO (fs.lookup f) (mA f)) /\ PySem.Within mA (fs.map (·.1)) /\ fs.length <= 1000 /\ H dx = some (.own a) := by
  obtain ⟨d, z, ne, ob, mA, n, r, q⟩ := (show ObjOk P w H h a (.ins C dx fs) from hok a _ e)
  exact ⟨mA, ⟨ob, n, ne⟩, r, q, z, d⟩
end
structure Cls (K : PySem.W.Frag) (C : Addr) : Prop where
  pg : PySem.W.plainGet K C Str.empty = true
  hd : PySem.W.hasDictIn K C = true
  po : PySem.W.plainOver K C = true
  sa : PySem.W.findIn K (.ref C) "__setattr__" = some (some (.builtin "object.__setattr__"))
theorem Cls.get {K : PySem.W.Frag} {C : Addr} (c : Cls K C) (f : Str) : PySem.W.plainGet K C f = true := c.pg
structure Con (K : PySem.W.Frag) (C : Addr) (f : Str) (v : V) (u : Value) : Prop where
  at_ : PySem.W.findIn K (.ref C) f = some (some u)
  rel : RelV v u
  get : PySem.W.specialIn K u "__get__" = some none
  cp : PySem.W.copiedNames.contains f = false
structure Meth (K : PySem.W.Frag) (C : Addr) (m : Str) (f : Addr) : Prop where
  at_ : PySem.W.findIn K (.ref C) m = some (some (.ref f))
  fn : PySem.W.isFn K (.ref f) = true
  kp : PySem.W.keepIn K (.ref f) = true
section
variable {X : Cx} {pins : List (Addr × Obj)} {σ : St} {H : Hp} {s : Shared} {a C dx : Addr} {fs : List (Str × V)} {f : Str} {v : V} {A : Around} {E : Value -> Shared -> Prop}
end
section
variable {X : Cx} {o e value : Expr} {f : Str} {pos pos' tpos : Pos} {ta tv : TE}
end
section
variable {X : Cx} {pins : List (Addr × Obj)} {σ : St} {H : Hp} {s : Shared} {A : Around} {E : Value -> Shared -> Prop} {Q : Value -> Shared -> Prop} {c : Value} {b : Bool}
inductive TyOf (K : PySem.W.Frag) (H : Hp) : V -> Value -> Prop where
  | non : TyOf K H .non (.type "NoneType")
  | bl (x : Bool) : TyOf K H (.bl x) (.type "bool")
  | int (i : Int) : TyOf K H (.int i) (.type "int")
  | str (x : Str) : TyOf K H (.str x) (.type "str")
  | flt (x : UInt64) : TyOf K H (.flt x) (.type "float")
  | lst {a : Addr} {xs : List V} (e : H a = some (.lst xs)) : TyOf K H (.ref a) (.type "list")
  | frz {a : Addr} {o : Obj} {xs : List V} (e : H a = some (.frz o (.lst xs))) : TyOf K H (.ref a) (.type "list")
  | tup {a : Addr} {xs : List V} (e : H a = some (.tup xs)) : TyOf K H (.ref a) (.type "tuple")
  | dK {a : Addr} {kvs : List (Key × V)} (e : H a = some (.dK kvs)) : TyOf K H (.ref a) (.type "dict")
  | dT {a : Addr} {kvs : List (List Key × V)} (e : H a = some (.dT kvs)) : TyOf K H (.ref a) (.type "dict")
  | ins {a C dx : Addr} {fs : List (Str × V)} (e : H a = some (.ins C dx fs)) (cl : Cls K C) (ha : PySem.W.findIn K (.ref C) "__class__" = some (some (.builtin "object.__class__")))
      (hn : PySem.W.specialIn K (.builtin "object.__class__") "__get__" = some (some (.builtin "getset_descriptor.__get__"))) (htk : PySem.W.takesIn K (.builtin "object.__class__") = some true)
      (hm : PySem.W.mroIn K C (.type "object") = some true) : TyOf K H (.ref a) (.ref C)
theorem isinst_ok {x : V} {u t : Value} (I : Inv X pins σ H s) (rx : RelV x u) (ty : TyOf X.K H x t) (e : PySem.W.kitOne X.K t c = some b) (h : ∀ tk, Q (.bool b) { s with toks := tk }) :
    wpAny (model X.prog X.w) A (call (.builtin "isinstance") [u, c]) Q E s := by
  cases ty with
  | non => cases (show u = Value.none from rx); exact PySem.W.kia_one PySem.W.kitx_none I.kIn True.intro e (fun z => nomatch z) h
  | bl y => cases (show u = Value.bool y from rx); exact PySem.W.kia_one PySem.W.kitx_bool I.kIn True.intro e (fun z => nomatch z) h
  | int i => obtain ⟨t, q⟩ := (show ∃ t, u = Value.int i t from rx); cases q; exact PySem.W.kia_one PySem.W.kitx_int I.kIn True.intro e (fun z => nomatch z) h
  | str y => obtain ⟨t, q⟩ := (show ∃ t, u = Value.str y t from rx); cases q; exact PySem.W.kia_one PySem.W.kitx_str I.kIn True.intro e (fun z => nomatch z) h
  | flt y => obtain ⟨t, q⟩ := (show ∃ t, u = Value.float y t from rx); cases q; exact PySem.W.kia_one PySem.W.kitx_float I.kIn True.intro e (fun z => nomatch z) h
  | @lst a xs ea =>
    cases (show u = Value.ref a from rx)
    obtain ⟨_, _, n, _, h1⟩ := (show ObjOk X.prog X.w H s.heap a (.lst xs) from I.hok a _ ea)
    exact PySem.W.kia_one PySem.W.kitx_list I.kIn ⟨_, h1, rfl⟩ e (fun z => nomatch z) h
  | @frz a ob xs ea =>
    cases (show u = Value.ref a from rx)
    obtain ⟨_, _, _, n, _, h1⟩ := (show ObjOk X.prog X.w H s.heap a (.frz ob (.lst xs)) from I.hok a _ ea)
    exact PySem.W.kia_one PySem.W.kitx_list I.kIn ⟨_, h1, rfl⟩ e (fun z => nomatch z) h
  | @tup a xs ea =>
    cases (show u = Value.ref a from rx)
    obtain ⟨_, _, _, p⟩ := (show ObjOk X.prog X.w H s.heap a (.tup xs) from I.hok a _ ea)
    obtain ⟨o, h1, h2, _⟩ := p
    exact PySem.W.kia_one PySem.W.kitx_tuple I.kIn ⟨o, h1, h2⟩ e (fun z => nomatch z) h
  | @dK a kvs ea =>
    cases (show u = Value.ref a from rx)
    obtain ⟨_, _, vs, _, p⟩ := (show ObjOk X.prog X.w H s.heap a (.dK kvs) from I.hok a _ ea)
    obtain ⟨o, es, ep, h1, h2, _⟩ := p
    exact PySem.W.kia_one PySem.W.kitx_dict I.kIn ⟨o, h1, h2.1⟩ e (fun z => nomatch z) h
  | @dT a kvs ea =>
    cases (show u = Value.ref a from rx)
    obtain ⟨_, _, xs, _, o, es, ep, h1, h2, _⟩ := (show ObjOk X.prog X.w H s.heap a (.dT kvs) from I.hok a _ ea)
    exact PySem.W.kia_one PySem.W.kitx_dict I.kIn ⟨o, h1, h2.1⟩ e (fun z => nomatch z) h
  | @ins a C dx fs ea cl ha hn htk hm =>
    cases (show u = Value.ref a from rx)
    obtain ⟨mA, O, _⟩ := ins_get I.hok ea
    obtain ⟨od, J, _⟩ := O.look
    exact PySem.W.kia_one (PySem.W.kitx_own (cl.get _) cl.hd ha hn htk hm) I.kIn J e (fun z => nomatch z) h
end
structure Room (k : Nat) (A : Around) : Prop where
  hd : A.handled = none
  dp : A.depth + 3 * k + 5 < recursionLimit
  un : A.units + 16 * k + 200 < cLine
theorem Room.mono {j k : Nat} {A : Around} (r : Room k A) (h : j <= k) : Room j A := ⟨r.hd, by have := r.dp; omega, by have := r.un; omega⟩
theorem Room.deeper {k : Nat} {A : Around} (r : Room (k + 1) A) (env : Env) : Room k (A.deeper env) :=
  ⟨r.hd, by have := r.dp; show A.depth + 1 + 3 * k + 5 < _; omega, by have := r.un; show A.units + 3 + 16 * k + 200 < _; omega⟩
theorem Room.depth {k : Nat} {A : Around} (r : Room k A) : A.depth < recursionLimit := by have := r.dp; omega
theorem Room.units {k : Nat} {A : Around} (r : Room k A) : A.units + 64 < cLine := by have := r.un; omega
def tNil : TA := fun _ H Q => Q [] H
def tCons (ta : TE) (tr : TA) : TA := fun σ H Q => ta σ H fun x H1 => tr σ H1 fun xs H2 => Q (x :: xs) H2
section
variable {X : Cx} {e : Expr} {es : List Expr} {te : TE} {t : TA} {pos : Pos}
theorem pa_nil : PA X [] tNil := fun _ _ _ _ H Q I h => Calls.spliced_nil ⟨[], H, I, .nil, h⟩
theorem pa_cons (ha : PE X e te) (hr : PA X es t) (hs : starEach (e :: es) X.env = (false, eval e X.env) :: starEach es X.env := by rfl) : PA X (e :: es) (tCons te t) := by
  intro pos pins s σ H Q I h
  rw [hs]
  show wpAny _ _ (spliced ((false, eval e X.env) :: backTo pos (starEach es X.env))) _ _ s
  refine Calls.spliced_cons (thn (ha pins s σ H _ I h) fun u s1 ⟨x, H1, I1, r1, q1⟩ => ?_)
  exact thn (hr pos pins s1 σ H1 _ I1 q1) fun us s2 ⟨xs, H2, I2, r2, q2⟩ => ⟨x :: xs, H2, I2, .cons r1 r2, q2⟩
def tTup (t : TA) : TE := fun σ H Q => t σ H fun xs H1 => xs.length <= sizeLine /\ ∀ p, H1 p = none -> Q (.ref p) (upd H1 p (.tup xs))
def tLst (t : TA) : TE := fun σ H Q => t σ H fun xs H1 => xs.length <= sizeLine /\ ∀ p, H1 p = none -> Q (.ref p) (upd H1 p (.lst xs))
theorem pe_tup {x1} (h : PA X es t) : PE X (.Tuple es x1 pos) (tTup t) := by
  intro pins s σ H Q I hq
  refine wpAny_Tuple_spliced (thn (h pos pins s σ H _ I hq) fun us s1 ⟨xs, H1, I1, r, z, q⟩ => ⟨by rw [<- r.length]; exact z, ?_⟩)
  have hf : H1 s1.heap.objs.size = none := I1.hok.fresh (Nat.le_refl _)
  refine ⟨.ref s1.heap.objs.size, upd H1 s1.heap.objs.size (.tup xs), I1.laid (t' := s1.toks) (fun b u e => Heap.get?_push_of_some _ e) (Nat.le_refl _) ?_, rfl, q _ hf⟩
  exact ⟨z, us, r, ⟨_, Heap.get?_push_size _ rfl, rfl, _, rfl⟩⟩
theorem pe_lst (h : PA X es t) : PE X (.List es pos) (tLst t) := by
  intro pins s σ H Q I hq
  refine wpAny_List_spliced (thn (h pos pins s σ H _ I hq) fun us s1 ⟨xs, H1, I1, r, z, q⟩ => ⟨by rw [<- r.length]; exact z, ?_⟩)
  have hf : H1 s1.heap.objs.size = none := I1.hok.fresh (Nat.le_refl _)
  refine ⟨.ref s1.heap.objs.size, upd H1 s1.heap.objs.size (.lst xs), I1.laid (t' := s1.toks) (fun b u e => Heap.get?_push_of_some _ e) (Nat.le_refl _) ?_, rfl, q _ hf⟩
  exact ⟨z, us, 0, r, Heap.get?_push_size _ rfl⟩
end
abbrev Sp := List V -> Hp -> VK -> XK -> Prop
abbrev CXT := List Env -> Hp -> Shared -> XK -> Value -> Shared -> Prop
structure Env0 (P : Program) (w : World) (K : PySem.W.Frag) (mg : Str -> Option Value) (base : Heap) (A : Around) (outer : List Env) (s : Shared) (H : Hp) : Prop where
  frames : A.frames = some outer
  mod : Mod K mg base
  bs : ∀ b o, base.get? b = some o -> s.heap.get? b = some o /\ H b = none
  bsz : base.objs.size <= s.heap.objs.size
  funs : s.heap.FunFrames base outer
  frf : ∀ b ∈ frs outer, H b = none
  hok : HOk P w H s.heap
  bare : AllBare s.gens
def CE (outer : List Env) (P : Program) (w : World) (H : Hp) (s : Shared) (Q : VK) (u : Value) (s' : Shared) : Prop :=
  ∃ v H', s'.os = s.os /\ AllBare s'.gens /\ Un (frs outer) [] H H' s.heap s'.heap /\ HOk P w H' s'.heap /\ RelV v u /\ Q v H'
def CR (CX : CXT) (outer : List Env) (P : Program) (w : World) (H : Hp) (s : Shared) (Q : VK) (E : XK) (r : Result) (s' : Shared) : Prop :=
  match r with
  | .ok (.ret u) => CE outer P w H s Q u s'
  | .ok _ => False
  | .error e => CX outer H s E e s'
structure FnOk (P : Program) (w : World) (K : PySem.W.Frag) (mg : Str -> Option Value) (base : Heap) (CX : CXT) (k : Nat) (f : Addr) (fd : FuncData) (ps : List Str) (sp : Sp) : Prop where
  len : ∀ vs H Q E, sp vs H Q E -> vs.length = ps.length
  run : ∀ (A : Around) (outer : List Env) (s : Shared) (H : Hp) (args : Args) (us : List Value) (vs : List V) (Q : VK) (E : XK), Room k A -> Env0 P w K mg base A outer s H -> BindsTo s fd args (ps.zip us) -> Vals vs us -> sp vs H Q E ->
    codeAny (model P w) A (.call (.ref f) args) (CR CX outer P w H s Q E) s
theorem FnOk.imp {P : Program} {w : World} {K : PySem.W.Frag} {mg : Str -> Option Value} {base : Heap} {CX : CXT} {k : Nat} {f : Addr} {fd : FuncData} {ps : List Str} {sp sp' : Sp} (F : FnOk P w K mg base CX k f fd ps sp)
    (h : ∀ vs H Q E, sp' vs H Q E -> sp vs H Q E) : FnOk P w K mg base CX k f fd ps sp' :=
  ⟨fun vs H Q E q => F.len vs H Q E (h _ _ _ _ q), fun A outer s H args us vs Q E hr he hb hv hs => F.run A outer s H args us vs Q E hr he hb hv (h _ _ _ _ hs)⟩
section
variable {X : Cx} {pins : List (Addr × Obj)} {σ : St} {H : Hp} {s s' : Shared}
theorem Inv.env0 (I : Inv X pins σ H s) : Env0 X.prog X.w X.K X.mg X.base X.A X.stack s H :=
  ⟨I.ok.frames, I.ok.mod, I.bs, Nat.le_trans I.ok.bsz I.sz, I.stack, I.stkFree, I.hok, I.bare⟩
theorem Inv.after {Q : VK} {u : Value} (I : Inv X pins σ H s) (h : CE X.stack X.prog X.w H s Q u s') : EP X pins σ Q u s' := by
  obtain ⟨v, H', os, bare, un, hok, r, q⟩ := h
  obtain ⟨hh, g, d, t, os'⟩ := s'
  obtain rfl : os' = s.os := os
  exact ⟨v, H', I.call (h' := hh) (g' := g) (d' := d) (t' := t) (ch := []) un hok bare (fun b z => absurd z (by simp)), r, q⟩
end
def tCall (sp : Sp) (dvs : List V) (E : XK) (t : TA) : TE := fun σ H Q => t σ H fun vs H1 => sp (vs ++ dvs) H1 Q E
def Binds (K : PySem.W.Frag) (fd : FuncData) (ps : List Str) (ds : List Value) : Prop :=
  ∀ (s : Shared) (us : List Value), K.In s.heap -> (us ++ ds).length = ps.length -> BindsTo s fd ⟨us, []⟩ (ps.zip (us ++ ds))
theorem Binds.all {K : PySem.W.Frag} {fd : FuncData} {ps : List Str} (h : ∀ us : List Value, us.length = ps.length -> bindArgs fd ⟨us, []⟩ = pure (ps.zip us)) : Binds K fd ps [] := fun s us _ hl => by
  rw [List.append_nil] at hl ⊢
  exact .of_eq (h us hl)
def Passes (CX : CXT) (X : Cx) (E : XK) : Prop := ∀ (pins : List (Addr × Obj)) (σ : St) (H : Hp) (s : Shared) (e : Value) (s' : Shared), Inv X pins σ H s -> CX X.stack H s E e s' -> X.xe e s'
section
variable {X : Cx} {CX : CXT} {k : Nat} {f C : Addr} {fd : FuncData} {ps : List Str} {sp : Sp} {dvs : List V} {ds : List Value} {E : XK} {x m : Str} {p pos apos : Pos} {e o : Expr} {es : List Expr} {ta : TE} {t : TA}
theorem run_fn {pins : List (Addr × Obj)} {σ : St} {H : Hp} {s : Shared} {Q : VK} {us : List Value} {vs : List V} (F : FnOk X.prog X.w X.K X.mg X.base CX k f fd ps sp) (hr : Room k X.A) (hb : Binds X.K fd ps ds) (hd : Vals dvs ds) (hx : Passes CX X E)
    (I : Inv X pins σ H s) (r : Vals vs us) (h : sp (vs ++ dvs) H Q E) : wpAny (model X.prog X.w) X.A (call (.ref f) us) (EP X pins σ Q) X.xe s := by
  have r2 : Vals (vs ++ dvs) (us ++ ds) := r.append hd
  have hl : (us ++ ds).length = ps.length := by rw [<- r2.length]; exact F.len _ _ _ _ h
  refine wpAny_call (codeAny_mono (F.run X.A X.stack s H ⟨us, []⟩ (us ++ ds) (vs ++ dvs) Q E hr I.env0 (hb s us I.kIn hl) r2 h) fun r s' hq => ?_)
  cases r with
  | error e => exact hx pins σ H s e s' I hq
  | ok fl =>
    cases fl with
    | ret u => exact I.after hq
    | next => exact False.elim hq
    | brk => exact False.elim hq
    | cont => exact False.elim hq
theorem pe_call (F : FnOk X.prog X.w X.K X.mg X.base CX k f fd ps sp) (hr : Room k X.A) (hg : Gl X x) (hm : X.mg x = some (.ref f)) (hk : PySem.W.keepIn X.K (.ref f) = true) (hb : Binds X.K fd ps ds) (hd : Vals dvs ds) (hx : Passes CX X E)
    (ha : PA X (e :: es) t) (hdb : (x == ("__debug__" : Str)) = false := by decide) (he : starEach (e :: es) X.env = (false, eval e X.env) :: starEach es X.env := by rfl) (hpl : (backTo pos (starEach es X.env)).any (·.1) = false := by rfl) :
    PE X (.Call (.Name x p) (e :: es) [] pos) (tCall sp dvs E t) := by
  intro pins s σ H Q I h
  refine wpAny_Call_Name_kw (ld_glob I hg hm ?_ hdb)
  refine PySem.W.callWith_K (h₀ := X.base) I.ok.mod.kin hk (thn (ha pos pins s σ H _ I h) fun us s1 ⟨vs, H1, I1, r, q⟩ => ⟨I1.kIn, ?_⟩) he hpl
  exact run_fn F hr hb hd hx I1 r q
structure Mk (K : PySem.W.Frag) (C f : Addr) : Prop where
  makes : PySem.W.makesIn K C = true
  init : PySem.W.findIn K (.ref C) "__init__" = some (some (.ref f))
  fn : PySem.W.isFn K (.ref f) = true
  kp : PySem.W.keepIn K (.ref C) = true
end
section
variable {X : Cx} {CX : CXT} {k : Nat} {f C : Addr} {fd : FuncData} {ps ks : List Str} {sp : Sp} {E : XK} {x m : Str} {p pos apos kpos : Pos} {e o : Expr} {es : List Expr} {kws : List Keyword} {te ta : TE} {t tk : TA} {nm : Option Str}
structure KBinds (K : PySem.W.Frag) (fd : FuncData) (ps ks : List Str) (g : List Value -> List Value -> List Value) (gV : List V -> List V -> List V) : Prop where
  to : ∀ (s : Shared) (us ws : List Value), K.In s.heap -> (g us ws).length = ps.length -> BindsTo s fd ⟨us, ks.zip ws⟩ (ps.zip (g us ws))
  rel : ∀ {vs : List V} {us : List Value} {zs : List V} {ws : List Value}, Vals vs us -> Vals zs ws -> Vals (gV vs zs) (g us ws)
variable {g : List Value -> List Value -> List Value} {gV : List V -> List V -> List V}
end
structure FnScope (N P : List Str) (sc : Scope) : Prop where
  kind : sc.kind = .function
  co : sc.isCoroutine = false
  gen : sc.isGenerator = false
  nd : N.Nodup
  pre : N.take P.length = P
  par : ∀ x ∈ P, sc.names.lookup x = some .local ∨ sc.names.lookup x = some .cell
  nofree : ∀ y ∈ sc.names, y.2 ≠ .free
theorem bindL_out {kindOf : Str -> Option NameKind} {x : Str} : ∀ {binds : List (Str × Value)} {m : Str -> Option Value}, (∀ v, (x, v) ∉ binds) -> bindL kindOf binds m x = m x
  | [], _, _ => rfl
  | (n, v) :: r, m, h => by
    unfold bindL
    rw [bindL_out fun w hw => h w (List.mem_cons_of_mem _ hw)]
    split
    · have : x ≠ n := by rintro rfl; exact h v List.mem_cons_self
      simp [this]
    · rfl
theorem bindC_out {kindOf : Str -> Option NameKind} {x : Str} : ∀ {binds : List (Str × Value)} {m : Str -> Option Value}, (∀ v, (x, v) ∉ binds) -> bindC kindOf binds m x = m x
  | [], _, _ => rfl
  | (n, v) :: r, m, h => by
    unfold bindC
    rw [bindC_out fun w hw => h w (List.mem_cons_of_mem _ hw)]
    split
    · rfl
    · have : x ≠ n := by rintro rfl; exact h v List.mem_cons_self
      simp [this]
theorem bindL_get {kindOf : Str -> Option NameKind} {x : Str} {v : Value} : ∀ {P : List Str} {vs : List Value} {i : Nat} {m : Str -> Option Value}, P.Nodup -> P[i]? = some x -> vs[i]? = some v -> kindOf x = some .local ->
    bindL kindOf (P.zip vs) m x = some v
  | [], _, _, _, _, h, _, _ => by simp at h
  | _ :: _, [], _, _, _, _, h, _ => by simp at h
  | p :: P, w :: vs, 0, m, nd, h1, h2, hk => by
    simp at h1 h2; subst h1; subst h2
    show bindL kindOf ((p, w) :: P.zip vs) m p = _
    unfold bindL
    rw [bindL_out fun v hv => (List.nodup_cons.mp nd).1 (List.of_mem_zip hv).1, if_pos hk]
    simp
  | p :: P, w :: vs, i + 1, m, nd, h1, h2, hk => by
    show bindL kindOf ((p, w) :: P.zip vs) m x = _
    unfold bindL
    exact bindL_get (i := i) (List.nodup_cons.mp nd).2 (by simpa using h1) (by simpa using h2) hk
theorem bindC_get {kindOf : Str -> Option NameKind} {x : Str} {v : Value} : ∀ {P : List Str} {vs : List Value} {i : Nat} {m : Str -> Option Value}, P.Nodup -> P[i]? = some x -> vs[i]? = some v -> kindOf x ≠ some .local ->
    bindC kindOf (P.zip vs) m x = some v
  | [], _, _, _, _, h, _, _ => by simp at h
  | _ :: _, [], _, _, _, _, h, _ => by simp at h
  | p :: P, w :: vs, 0, m, nd, h1, h2, hk => by
    simp at h1 h2; subst h1; subst h2
    show bindC kindOf ((p, w) :: P.zip vs) m p = _
    unfold bindC
    rw [bindC_out fun v hv => (List.nodup_cons.mp nd).1 (List.of_mem_zip hv).1, if_neg hk]
    simp
  | p :: P, w :: vs, i + 1, m, nd, h1, h2, hk => by
    show bindC kindOf ((p, w) :: P.zip vs) m x = _
    unfold bindC
    exact bindC_get (i := i) (List.nodup_cons.mp nd).2 (by simpa using h1) (by simpa using h2) hk
def start (N : List Str) (vs : List V) : St := vs.map some ++ List.replicate (N.length - vs.length) none
def cxOf (CX : CXT) (P : Program) (w : World) (K : PySem.W.Frag) (mg : Str -> Option Value) (base : Heap) (N : List Str) (qual : Str) (scope : Scope) (f : Addr) (cd : Value) (A : Around) (outer : List Env) (s : Shared) (H : Hp) (E : XK) : Cx where
  prog := P
  w := w
  K := K
  mg := mg
  base := base
  A := A.deeper (envOfC qual scope s.heap.objs.size f cd)
  N := N
  s₀ := s
  H₀ := H
  env := envOfC qual scope s.heap.objs.size f cd
  outer := outer
  stack := envOfC qual scope s.heap.objs.size f cd :: outer
  ex := []
  calm := true
  fn := fun _ => true
  pn := []
  xe := fun e s' => wpAny (model P w) (A.deeper (envOfC qual scope s.heap.objs.size f cd)) (leaving (envOfC qual scope s.heap.objs.size f cd) e) (fun _ s'' => CX outer H s E e s'') (fun e' s'' => CX outer H s E e' s'') s'
theorem cell_has {sc : Scope} {n : Nat} {x : Str} (h : sc.names.lookup x = some .cell) : ∃ c, (cellsFrom n sc.names []).lookup x = some c := by
  have q := PySem.W.cellsFrom_some sc.names n [] (.inl h)
  exact Option.isSome_iff_exists.mp q
theorem inv_start {CX : CXT} {P : Program} {w : World} {K : PySem.W.Frag} {mg : Str -> Option Value} {base : Heap} {N ps : List Str} {qual : Str} {scope : Scope} {f : Addr} {cd : Value} {A : Around} {outer : List Env} {s s1 : Shared} {H : Hp} {E : XK} {us : List Value} {vs : List V}
    (S : FnScope N ps scope) (hd : A.handled = none) (e0 : Env0 P w K mg base A outer s H) (hl : vs.length = ps.length) (r : Vals vs us)
    (x : InCallC s s.heap.objs.size (bindL (envOfC qual scope s.heap.objs.size f cd).kindOf (ps.zip us) fun _ => none) (cellsFrom (s.heap.objs.size + 1) scope.names []) (bindC (envOfC qual scope s.heap.objs.size f cd).kindOf (ps.zip us) fun _ => none) s1) :
    Inv (cxOf CX P w K mg base N qual scope f cd A outer s H E) [] (start N vs) H s1 := by
  have hpl : ps.length <= N.length := by have := congrArg List.length S.pre; rw [List.length_take] at this; omega
  obtain ⟨h1, tk, rfl, hk⟩ := x.done
  have noA : ∀ b : Addr, b ∉ (cxOf CX P w K mg base N qual scope f cd A outer s H E).ex := fun b z => absurd (show b ∈ ([] : List Addr) from z) (by simp)
  refine ⟨⟨e0.mod, S.kind, rfl, rfl, Nat.le_refl _, fun y z c h1 h2 => ?_, fun y hy => ?_, fun y c _ h => ?_, fun _ => hd, Around.frames_deeper e0.frames, .inr ⟨rfl, rfl⟩, fun b z => absurd z (noA b), e0.bs, e0.bsz, fun b _ _ => noA b, fun b z => absurd z (noA b), e0.funs, e0.frf⟩,
    rfl, e0.bare, Un.kept hk, ⟨_, x.toInCall.ns, fun i y v h1 h2 h3 => ?_⟩, fun y c h => ⟨_, x.cell y c h⟩, e0.hok.fresh (Nat.le_refl _), fun y c h => ?_, fun p hp => absurd (show p ∈ ([] : List (Addr × Obj)) from hp) (by simp), e0.hok.kept hk, ?_⟩
  · exact name_of_addr x.apart (PySem.mem_of_lookup h1) (PySem.mem_of_lookup h2)
  · have hy : scope.names.lookup y = some .cell ∨ scope.names.lookup y = some .free := hy
    rcases hy with hy | hy
    · exact cell_has hy
    · exact absurd rfl (S.nofree _ (PySem.mem_of_lookup hy))
  · exact Nat.le_of_lt (x.above y c (PySem.mem_of_lookup h))
  · have hi : i < vs.length := by
      unfold start at h2
      by_cases hi : i < vs.length
      · exact hi
      · rw [List.getElem?_append_right (by simpa using hi)] at h2
        rw [List.getElem?_replicate] at h2
        split at h2 <;> cases h2
    have ha : vs[i]? = some v := by
      unfold start at h2
      rw [List.getElem?_append_left (by simpa using hi), List.getElem?_map] at h2
      cases e : vs[i]? with
      | none => rw [e] at h2; cases h2
      | some a => rw [e] at h2; cases h2; rfl
    obtain ⟨u, hu, rv⟩ := r.get ha
    have hp : ps[i]? = some y := by
      rw [<- S.pre, List.getElem?_take_of_lt (by omega)]; exact h1
    have ndP : ps.Nodup := by rw [<- S.pre]; exact S.nd.sublist (List.take_sublist _ _)
    refine ⟨u, rv, ?_⟩
    rcases S.par y (List.mem_of_getElem? hp) with k | k
    · exact .inl ⟨k, bindL_get ndP hp hu k⟩
    · obtain ⟨c, e⟩ := cell_has (n := s.heap.objs.size + 1) k
      refine .inr ⟨.inl k, c, e, ?_⟩
      have q := x.cell y c e
      rw [bindC_get ndP hp hu (by show scope.names.lookup y ≠ _; rw [k]; decide)] at q
      exact q
  · exact e0.hok.fresh (Nat.le_of_lt (x.above y c (PySem.mem_of_lookup h)))
  · unfold start
    show _ = N.length
    rw [List.length_append, List.length_map, List.length_replicate]
    omega
theorem fn_of {CX : CXT} {P : Program} {w : World} {K : PySem.W.Frag} {mg : Str -> Option Value} {base : Heap} {k : Nat} {f : Addr} {name qual : Str} {params : Arguments} {body : List Stmt} {scope : Scope} {dV kV doc pm cdv ct oc : Value} {an od : Option Addr}
    {osl : Array (Option Value)} {N ps : List Str} {sp : Sp} (lk : K.lookup f = some ⟨oc, od, .func (PySem.W.fnOf name qual params body scope dV kV doc pm an cdv ct), osl⟩) (hcd : PySem.W.codeIn K cdv qual = true) (S : FnScope N ps scope)
    (len : ∀ vs H Q E, sp vs H Q E -> vs.length = ps.length)
    (hbody : ∀ (A : Around) (outer : List Env) (s : Shared) (H : Hp) (vs : List V) (Q : VK) (E : XK), Room k (A.deeper (envOfC qual scope s.heap.objs.size f cdv)) -> sp vs H Q E ->
      ∃ t, PSs (cxOf CX P w K mg base N qual scope f cdv A outer s H E) body t /\ t { nx := fun _ H' => Q .non H', rt := Q } (start N vs) H) :
    FnOk P w K mg base CX (k + 1) f (PySem.W.fnOf name qual params body scope dV kV doc pm an cdv ct) ps sp := by
  refine ⟨len, fun A outer s H args us vs Q E hr e0 hb r hsp => ?_⟩
  have hl := len _ _ _ _ hsp
  have KX : K.In s.heap := e0.mod.kin.keeps fun b o e => (e0.bs b o e).1
  have lim : s.heap.NoLimit := e0.mod.nolimit.keeps fun b o e => (e0.bs b o e).1
  have hkind : ∀ y ∈ ps.zip us, scope.names.lookup y.1 = some .local ∨ (scope.names.lookup y.1 = some .cell /\ ((cellsFrom (s.heap.objs.size + 1) scope.names []).lookup y.1).isSome = true) := fun ⟨n, v⟩ hy => by
    rcases S.par n (List.of_mem_zip hy).1 with q | q
    · exact .inl q
    · exact .inr ⟨q, PySem.W.cellsFrom_some _ _ _ (.inl q)⟩
  refine codeAny_call_function hr.depth (KX _ _ lk) rfl S.co S.gen rfl (PySem.W.codeRec_of KX hcd) (hb _ _ _ _ ?_)
  refine wpAny_newFunctionEnv_cells S.kind hkind fun env he s1 x => ?_
  subst he
  refine ⟨lim.keeps x.toInCall.keep, codeAny_func ?_⟩
  obtain ⟨t, ht, hq⟩ := hbody A outer s H vs Q E (hr.deeper _) hsp
  have I : Inv (cxOf CX P w K mg base N qual scope f cdv A outer s H E) [] (start N vs) H s1 := inv_start S hr.hd e0 hl r x
  refine wpAny_mono (ht [] s1 (start N vs) H _ I hq) (fun fl s' hs => ?_) fun e s' hs => hs
  have fin : ∀ {σ' : St} {H' : Hp} {v : V} {u : Value}, Inv (cxOf CX P w K mg base N qual scope f cdv A outer s H E) [] σ' H' s' -> RelV v u -> Q v H' -> CE outer P w H s Q u s' :=
    fun {σ' H' v u} J rv q => ⟨v, H', J.os, J.bare, J.base, J.hok, rv, q⟩
  cases fl with
  | ret u =>
    obtain ⟨v, σ', H', J, rv, q⟩ := hs
    exact fin J rv q
  | next =>
    obtain ⟨σ', H', J, q⟩ := hs
    exact fin (v := V.non) (u := Value.none) J rfl q
  | brk =>
    obtain ⟨_, _, _, q⟩ := hs
    exact False.elim q
  | cont =>
    obtain ⟨_, _, _, q⟩ := hs
    exact False.elim q
section
variable {X : Cx} {x : Str} {p pos : Pos} {e : Expr} {es : List Expr} {t : TA} {id T : String} {r : List V -> Hp -> VK -> Prop}
def tCB (r : List V -> Hp -> VK -> Prop) (t : TA) : TE := fun σ H Q => t σ H fun vs H1 => r vs H1 Q
theorem pe_callB (hc : CallR X (.builtin id) r) (hg : Gl X x) (hm : X.mg x = none) (hv : bootBuiltins x = some (.builtin id)) (ha : PA X (e :: es) t) (hn : x ≠ "__name__" := by decide) (hdb : (x == ("__debug__" : Str)) = false := by decide)
    (he : starEach (e :: es) X.env = (false, eval e X.env) :: starEach es X.env := by rfl) (hpl : (backTo pos (starEach es X.env)).any (·.1) = false := by rfl) : PE X (.Call (.Name x p) (e :: es) [] pos) (tCB r t) := by
  intro pins s σ H Q I h
  refine wpAny_Call_Name_kw (ld_blt I hg hm hv ?_ hn hdb)
  exact PyProof.Rows.callWith_builtin1 (thn (ha pos pins s σ H _ I h) fun us s1 ⟨vs, H1, I1, r1, q1⟩ => hc pins s1 σ H1 vs us Q I1 r1 q1) he hpl
theorem pe_callTy (hc : CallR X (.type T) r) (hg : Gl X x) (hm : X.mg x = none) (hv : bootBuiltins x = some (.type T)) (ha : PA X (e :: es) t) (hn : x ≠ "__name__" := by decide) (hdb : (x == ("__debug__" : Str)) = false := by decide)
    (he : starEach (e :: es) X.env = (false, eval e X.env) :: starEach es X.env := by rfl) (hpl : (backTo pos (starEach es X.env)).any (·.1) = false := by rfl) : PE X (.Call (.Name x p) (e :: es) [] pos) (tCB r t) := by
  intro pins s σ H Q I h
  refine wpAny_Call_Name_kw (ld_blt I hg hm hv ?_ hn hdb)
  exact PyProof.Rows.callWith_type1 (thn (ha pos pins s σ H _ I h) fun us s1 ⟨vs, H1, I1, r1, q1⟩ => hc pins s1 σ H1 vs us Q I1 r1 q1) he hpl
end
end L2
namespace HT
open PySem PyProof.Rows
section
open PySem.SeqAt
open PySem.AutoSeq1 (wpAny_loadPart')
open PySem.MeetsSeq PySem.MeetsSeq2 PySem.MeetsSeq3
end
section
variable {prog : Program} {w : World} {A : Around} {E : Value -> Shared -> Prop} {s : Shared}
def sIx (n d : Nat) : Option Int -> Nat
  | none => d
  | some v => if v < 0 then (v + (n : Int)).toNat else min v.toNat n
end
end HT
namespace L2
open PySem PySem.Spec PyProof.Rows
abbrev TO := St -> Hp -> (Option Int -> Hp -> Prop) -> Prop
def PO (X : Cx) (e : Option Expr) (t : TO) : Prop :=
  ∀ (pins : List (Addr × Obj)) (s : Shared) (σ : St) (H : Hp) (Q : Option Int -> Hp -> Prop), Inv X pins σ H s -> t σ H Q ->
    wpAny (model X.prog X.w) X.A (evalPart e X.env) (fun u s' => ∃ o H', Inv X pins σ H' s' /\ IsPart u o /\ Q o H') X.xe s
def tNoPart : TO := fun _ H Q => Q none H
def tPart (t : TE) : TO := fun σ H Q => t σ H fun x H1 => ∃ i, x = .int i /\ Q (some i) H1
section
variable {X : Cx} {e : Expr} {te : TE} {lo hi : Option Expr} {tl th : TO} {pos p2 : Pos}
theorem po_none : PO X none tNoPart := by
  intro pins s σ H Q I h
  rw [evalPart_none]
  exact wpAny_pure ⟨none, H, I, .none, h⟩
theorem po_some (h : PE X e te) : PO X (some e) (tPart te) := by
  intro pins s σ H Q I hw
  rw [evalPart_some]
  refine thn (h pins s σ H _ I hw) fun u s1 ⟨x, H1, I1, r1, q1⟩ => ?_
  obtain ⟨i, rfl, q⟩ := q1
  obtain ⟨t, rfl⟩ := r1
  exact ⟨some i, H1, I1, .int i t, q⟩
def SlR (X : Cx) (r : V -> Option Int -> Option Int -> Hp -> VK -> Prop) : Prop :=
  ∀ (pins : List (Addr × Obj)) (s : Shared) (σ : St) (H : Hp) (x : V) (v vl vu : Value) (lo hi : Option Int) (sl : Addr) (Q : VK), Inv X pins σ H s -> RelV x v -> s.heap.IsSliceOf sl vl vu .none -> IsPart vl lo -> IsPart vu hi -> r x lo hi H Q ->
    ∃ T id, typeLookup (.type T) "__getitem__" = pure (some (.builtin id)) /\ s.TypeIs v T /\ wpAny (model X.prog X.w) X.A (getItem v (.ref sl)) (EP X pins σ Q) X.xe s
def tSl (r : V -> Option Int -> Option Int -> Hp -> VK -> Prop) (te : TE) (tl th : TO) : TE := fun σ H Q => te σ H fun x H1 => tl σ H1 fun l H2 => th σ H2 fun u H3 => r x l u H3 Q
theorem pe_slice {r : V -> Option Int -> Option Int -> Hp -> VK -> Prop} (hr : SlR X r) (he : PE X e te) (hl : PO X lo tl) (hu : PO X hi th) : PE X (.Subscript e (.Slice lo hi none p2) pos) (tSl r te tl th) := by
  intro pins s σ H Q I h
  refine Subscript_ (thn (he pins s σ H _ I h) fun v s1 ⟨x, H1, I1, r1, q1⟩ => ?_)
  refine wpAny_Slice (thn (hl pins s1 σ H1 _ I1 q1) fun vl s2 ⟨l, H2, I2, pl, q2⟩ => thn (hu pins s2 σ H2 _ I2 q2) fun vu s3 ⟨u, H3, I3, pu, q3⟩ => ?_)
  rw [evalPart_none]
  refine wpAny_pure ?_
  have I4 : Inv X pins σ H3 { s3 with heap := s3.heap.push { cls := .type "slice", data := .fields #[vl, vu, .none] } } := I3.kept (t' := s3.toks) fun b ob q => Heap.get?_push_of_some _ q
  obtain ⟨T, id, hT, ht, hg⟩ := hr pins { s3 with heap := s3.heap.push { cls := .type "slice", data := .fields #[vl, vu, .none] } } σ H3 x v vl vu l u s3.heap.objs.size Q I4 r1 (Heap.IsSliceOf.new ..) pl pu q3
  show wpAny (model X.prog X.w) X.A (subscriptTail e (.Slice lo hi none p2) v (.ref s3.heap.objs.size)) (EP X pins σ Q) X.xe { s3 with heap := s3.heap.push { cls := .type "slice", data := .fields #[vl, vu, .none] } }
  exact tail_any (ops := [.ref s3.heap.objs.size, v]) ht hT hg (by with_unfolding_all rfl)
def cutV (xs : List V) (lo hi : Option Int) : List V := (xs.drop (HT.sIx xs.length 0 lo)).take (HT.sIx xs.length xs.length hi - HT.sIx xs.length 0 lo)
theorem cutV_length (xs : List V) (lo hi : Option Int) : (cutV xs lo hi).length <= xs.length := by
  unfold cutV
  rw [List.length_take, List.length_drop]
  omega
end
def ixN (n : Nat) (i : Int) : Option Nat := if 0 <= i then (if i < n then some i.toNat else none) else if -(n : Int) <= i then some (i + n).toNat else none
def atI {α : Type} (xs : List α) (i : Int) : Option α := (ixN xs.length i).bind fun j => xs[j]?
theorem ixN_seq {n : Nat} {i : Int} {j : Nat} (h : ixN n i = some j) : seqIndex? i n = some j /\ j < n /\ -(n : Int) <= i /\ i < n := by
  unfold ixN at h
  by_cases h0 : 0 <= i
  · rw [if_pos h0] at h
    by_cases h1 : i < n
    · rw [if_pos h1] at h
      have e : i.toNat = j := Option.some.inj h
      exact ⟨by rw [seqIndex_of h0 h1, e], by omega, by omega, h1⟩
    · rw [if_neg h1] at h; cases h
  · rw [if_neg h0] at h
    by_cases h1 : -(n : Int) <= i
    · rw [if_pos h1] at h
      have e : (i + n).toNat = j := Option.some.inj h
      exact ⟨by rw [seqIndex_neg (by omega) h1, e], by omega, h1, by omega⟩
    · rw [if_neg h1] at h; cases h
theorem atI_get {α : Type} {xs : List α} {i : Int} {v : α} (h : atI xs i = some v) : ∃ j, seqIndex? i xs.length = some j /\ xs[j]? = some v /\ j < xs.length /\ -(xs.length : Int) <= i /\ i < xs.length := by
  unfold atI at h
  cases e : ixN xs.length i with
  | none => rw [e] at h; cases h
  | some j =>
    rw [e] at h
    obtain ⟨h1, h2, h3, h4⟩ := ixN_seq e
    exact ⟨j, h1, h, h2, h3, h4⟩
def PlainIx (b : Expr) : Prop := ∀ o i, subscripted b false o i = operate [o, i] (getItem o i)
def IxR (X : Cx) (r : R2) : Prop :=
  ∀ (value slice : Expr) (pins : List (Addr × Obj)) (s : Shared) (σ : St) (H : Hp) (x y : V) (v u : Value) (Q : VK), Inv X pins σ H s -> RelV x v -> RelV y u -> r x y H Q ->
    subscripted slice false v u = operate [v, u] (getItem v u) -> wpAny (model X.prog X.w) X.A (subscriptTail value slice v u) (EP X pins σ Q) X.xe s
def MtR (X : Cx) (id : String) (r : V -> List V -> Hp -> VK -> Prop) : Prop :=
  ∀ (pins : List (Addr × Obj)) (s : Shared) (σ : St) (H : Hp) (x : V) (xs : List V) (v : Value) (us : List Value) (Q : VK), Inv X pins σ H s -> RelV x v -> Vals xs us -> r x xs H Q ->
    wpAny (model X.prog X.w) X.A (call (.builtin id) (v :: us)) (EP X pins σ Q) X.xe s
section
variable {X : Cx} {a b : Expr} {ta tb : TE} {pos : Pos}
theorem IxR.or {r r' : R2} (h : IxR X r) (h' : IxR X r') : IxR X (fun x y H Q => r x y H Q ∨ r' x y H Q) := by
  intro value slice pins s σ H x y v u Q I rx ry q hs
  rcases q with q | q
  · exact h value slice pins s σ H x y v u Q I rx ry q hs
  · exact h' value slice pins s σ H x y v u Q I rx ry q hs
theorem pe_ix {r : R2} (hr : IxR X r) (ha : PE X a ta) (hb : PE X b tb) (hs : PlainIx b) : PE X (.Subscript a b pos) (tOp r ta tb) := by
  intro pins s σ H Q I h
  exact Subscript_ (binT ha hb I h fun v u s2 x y H2 I2 rx ry q => hr a b pins s2 σ H2 x y v u Q I2 rx ry q (hs _ _))
def rIxL (K : PySem.W.Frag) : R2 := fun x y H Q => ∃ p xs i v, x = .ref p /\ y = .int i /\ SqL K H p xs /\ atI xs i = some v /\ Q v H
def rIxT (K : PySem.W.Frag) : R2 := fun x y H Q => ∃ p xs i v, x = .ref p /\ y = .int i /\ SqT K H p xs /\ atI xs i = some v /\ Q v H
def rIxS : R2 := fun x y H Q => ∃ z i c, x = .str z /\ y = .int i /\ z.length <= sizeLine /\ atI z.cps.toList i = some c /\ Q (.str ⟨#[c]⟩) H
theorem ix_list : IxR X (rIxL X.K) := by
  intro value slice pins s σ H x y v u Q I rx ry h hs
  obtain ⟨p, xs, i, z, rfl, rfl, hq, he, q⟩ := h
  cases rx
  obtain ⟨t, rfl⟩ := ry
  obtain ⟨its, r, pl, hz⟩ := I.list hq
  obtain ⟨j, h1, h2, h3, h4, h5⟩ := atI_get he
  obtain ⟨w, ew, rw'⟩ := r.get h2
  have hl := r.length
  have hn := line63
  have fin : EP X pins σ Q w s := ⟨z, H, I, rw', q⟩
  by_cases h0 : 0 <= i
  · have hj : i.toNat = j := by
      rw [seqIndex_of h0 h5] at h1
      exact Option.some.inj h1
    exact item_listR pl.isList h0 (by omega) (by rw [hj]; simpa using ew) fin hs
  · have hj : (i + (its.toArray.size : Int)).toNat = j := by
      rw [seqIndex_neg (by omega) h4] at h1
      rw [List.size_toArray, <- hl]
      exact Option.some.inj h1
    exact subscriptTail_builtinR (x := w) pl.isList.typeIs slot_list_getitem.lookup
      (wpAny_getItem_list_neg (Q := fun r s' => r = w /\ EP X pins σ Q r s') pl.isList (by omega) (by rw [List.size_toArray] <;> omega) (by omega) (by rw [hj]; simpa using ew) ⟨rfl, fin⟩) hs
theorem ix_tup : IxR X (rIxT X.K) := by
  intro value slice pins s σ H x y v u Q I rx ry h hs
  obtain ⟨p, xs, i, z, rfl, rfl, hq, he, q⟩ := h
  cases rx
  obtain ⟨t, rfl⟩ := ry
  obtain ⟨its, r, pl, hz⟩ := I.tuple hq
  obtain ⟨j, h1, h2, h3, h4, h5⟩ := atI_get he
  obtain ⟨w, ew, rw'⟩ := r.get h2
  have hl := r.length
  have hn := line63
  have fin : EP X pins σ Q w s := ⟨z, H, I, rw', q⟩
  exact subscriptTail_builtinR (x := w) pl.typeIs slot_tuple_getitem.lookup
    (getItem_tuple (j := j) (Q := fun r s' => r = w /\ EP X pins σ Q r s') pl (by omega) (by omega) (by rw [List.size_toArray, <- hl]; exact h1) (by simpa using ew) ⟨rfl, fin⟩) hs
theorem ix_str : IxR X rIxS := by
  intro value slice pins s σ H x y v u Q I rx ry h hs
  obtain ⟨z, i, c, rfl, rfl, hz, he, q⟩ := h
  obtain ⟨t, rfl⟩ := rx
  obtain ⟨t', rfl⟩ := ry
  obtain ⟨j, h1, h2, h3, h4, h5⟩ := atI_get he
  have hl : z.cps.toList.length = z.length := by simp [Str.length]
  rw [hl] at h1 h4 h5
  have hn := line63
  exact tail_any (typeIs_str s z t) slot_str_getitem.lookup (getItem_str (c := c) (by
    have e1 : decide (i < -(2 ^ 63 : Int)) = false := decide_eq_false (by omega)
    have e2 : decide (i ≥ 2 ^ 63) = false := decide_eq_false (by omega)
    rw [e1, e2, Bool.or_false]) (by rw [h1]; simpa using h2) ⟨.str ⟨#[c]⟩, H, I.tok _, ⟨_, rfl⟩, q⟩) hs
def rIx (K : PySem.W.Frag) : R2 := fun x y H Q => rIxL K x y H Q ∨ rIxT K x y H Q ∨ rIxS x y H Q
theorem ix_seq : IxR X (rIx X.K) := ix_list.or (ix_tup.or ix_str)
theorem mapSeq_set (its : List Value) (n j : Nat) (u : Value) : Obj.mapSeq (·.setIfInBounds j u) { cls := .type "list", data := .seq its.toArray n } = { cls := .type "list", data := .seq (its.set j u).toArray n } := by
  simp [Obj.mapSeq]
theorem Inv.lst {pins : List (Addr × Obj)} {σ : St} {H : Hp} {s : Shared} {p : Addr} {xs : List V} (I : Inv X pins σ H s) (h : H p = some (.lst xs)) :
    ∃ (its : List Value) (n : Nat), Vals xs its /\ s.heap.get? p = some { cls := .type "list", data := .seq its.toArray n } /\ xs.length <= sizeLine := by
  obtain ⟨z, its, n, r, e⟩ := I.hok p _ h
  exact ⟨its, n, r, e, z⟩
theorem Inv.lstUpd {pins : List (Addr × Obj)} {σ : St} {H : Hp} {s : Shared} {p : Addr} {xs ys : List V} {its its' : List Value} {n n' : Nat} {f : Obj -> Obj} (I : Inv X pins σ H s) (h : H p = some (.lst xs))
    (ho : s.heap.get? p = some { cls := .type "list", data := .seq its.toArray n }) (hf : f { cls := .type "list", data := .seq its.toArray n } = { cls := .type "list", data := .seq its'.toArray n' }) (r : Vals ys its') (hz : ys.length <= sizeLine) (t : Nat) :
    Inv X pins σ (upd H p (.lst ys)) { s with heap := s.heap.update p f, toks := t } := by
  have e : (s.heap.update p f).get? p = some { cls := .type "list", data := .seq its'.toArray n' } := by
    rw [Heap.get?_update_self f ho (by rw [hf] <;> rfl), hf]
  refine I.write (x := p) (e := p) (by rw [h]; trivial) (.inl rfl) (fun b u hb q => (Heap.get?_update_other _ _ (Ne.symm hb)).trans q) ⟨_, e⟩ ?_
  exact ⟨hz, its', n', r, e⟩
def rSetL : V -> V -> V -> Hp -> (Hp -> Prop) -> Prop := fun o i v H Q => ∃ p xs k j, o = .ref p /\ i = .int k /\ H p = some (.lst xs) /\ ixN xs.length k = some j /\ Q (upd H p (.lst (xs.set j v)))
theorem set_list : PSet X rSetL := by
  intro pins s σ H o i v ov iv u Q I ro ri rv h
  obtain ⟨p, xs, k, j, rfl, rfl, hp, hj, q⟩ := h
  cases ro
  obtain ⟨t, rfl⟩ := ri
  obtain ⟨its, n, r, ho, hz⟩ := I.lst hp
  obtain ⟨h1, h2, h3, h4⟩ := ixN_seq hj
  have hl := r.length
  have hn := line63
  have I' : Inv X pins σ (upd H p (.lst (xs.set j v))) { s with heap := s.heap.update p (Obj.mapSeq (·.setIfInBounds j u)) } :=
    I.lstUpd hp ho (mapSeq_set its n j u) (r.set rv j) (by rw [List.length_set]; exact hz) s.toks
  by_cases h0 : 0 <= k
  · have hk : k.toNat = j := by
      rw [seqIndex_of h0 h4] at h1
      exact Option.some.inj h1
    exact PySem.W.ki_setAt ho h0 (by omega) (by rw [List.size_toArray, <- hl]; exact h4) (by rw [hk]; exact ⟨_, I', q⟩)
  · have hk : (k + (its.toArray.size : Int)).toNat = j := by
      rw [seqIndex_neg (by omega) h3] at h1
      rw [List.size_toArray, <- hl]
      exact Option.some.inj h1
    exact PySem.W.ki_setBack ho (by omega) (by rw [List.size_toArray, <- hl]; exact h3) (by omega) (by rw [hk]; exact ⟨_, I', q⟩)
theorem slice_bounds (lo hi : Option Int) (n : Nat) : (sliceBounds lo hi none n).1 = ((HT.sIx n 0 lo : Nat) : Int) /\ (sliceBounds lo hi none n).2.1 = ((HT.sIx n n hi : Nat) : Int) /\ (sliceBounds lo hi none n).2.2 = 1 := by
  refine ⟨?_, ?_, rfl⟩
  · cases lo with
    | none => simp [sliceBounds, HT.sIx]
    | some i =>
      simp only [sliceBounds, HT.sIx, Option.getD_none, show (1 : Int) > 0 by decide, if_true]
      by_cases h : i < 0
      · simp only [h, if_true] <;> omega
      · simp only [h, if_false] <;> omega
  · cases hi with
    | none => simp [sliceBounds, HT.sIx]
    | some i =>
      simp only [sliceBounds, HT.sIx, Option.getD_none, show (1 : Int) > 0 by decide, if_true]
      by_cases h : i < 0
      · simp only [h, if_true] <;> omega
      · simp only [h, if_false] <;> omega
theorem slicePick_cut (its : List Value) (lo hi : Option Int) : slicePick its.toArray lo hi none = ((its.drop (HT.sIx its.length 0 lo)).take (HT.sIx its.length its.length hi - HT.sIx its.length 0 lo)).toArray := by
  obtain ⟨h1, h2, h3⟩ := slice_bounds lo hi its.toArray.size
  unfold slicePick
  rw [h1, h2, h3]
  simp only [sliceRange_one, pick_run, List.size_toArray] <;> rfl
def rSlL (K : PySem.W.Frag) : V -> Option Int -> Option Int -> Hp -> VK -> Prop := fun x lo hi H Q => ∃ a xs, x = .ref a /\ SqL K H a xs /\ ∀ p, H p = none -> Q (.ref p) (upd H p (.lst (cutV xs lo hi)))
theorem sl_list : SlR X (rSlL X.K) := by
  intro pins s σ H x v vl vu lo hi sl Q I rx hs pl pu h
  obtain ⟨a, xs, rfl, hx, q⟩ := h
  cases rx
  obtain ⟨its, r, ht, hz⟩ := I.list hx
  have hlen := r.length
  refine ⟨"list", _, slot_list_getitem.lookup, ht.isList.typeIs, ?_⟩
  refine wpAny_getItem_list_slice ht.isList hs pl pu .none (by simp) ?_ (by rw [List.size_toArray] <;> omega)
  rw [slicePick_cut, <- hlen]
  refine ⟨.ref s.heap.objs.size, _, I.laid (t' := s.toks) (o := .lst (cutV xs lo hi)) (fun b ob q => Heap.get?_push_of_some _ q) (Nat.le_refl _) ?_, rfl, q _ (I.hok.fresh (Nat.le_refl _))⟩
  exact ⟨Nat.le_trans (cutV_length xs lo hi) hz, _, 0, (r.drop (HT.sIx xs.length 0 lo)).take (HT.sIx xs.length xs.length hi - HT.sIx xs.length 0 lo), Heap.get?_push_size _ rfl⟩
def flatV : V -> Bool
  | .non => true
  | .bl _ => true
  | .int _ => true
  | .str _ => true
  | _ => false
def eqV : V -> V -> Bool
  | .non, .non => true
  | .bl a, .bl b => a == b
  | .bl a, .int b => (if a then 1 else 0) == b
  | .int a, .bl b => a == (if b then 1 else 0)
  | .int a, .int b => a == b
  | .str a, .str b => a == b
  | _, _ => false
theorem eqAt_V {A : Around} {s : Shared} {y x : V} {u v : Value} (ry : RelV y u) (rx : RelV x v) (fy : flatV y = true) (fx : flatV x = true) : SeqAt.EqAt A s u v (eqV y x) := by
  cases y with
  | non =>
    cases ry
    cases x with
    | non => cases rx; exact SeqAt.EqAt.same _
    | bl b => cases rx; exact SeqAt.EqAt.none_bool b
    | int b => obtain ⟨t, rfl⟩ := rx; exact SeqAt.EqAt.none_int b t
    | str b => obtain ⟨t, rfl⟩ := rx; exact SeqAt.EqAt.none_str b t
    | _ => exact absurd (show false = true from fx) Bool.false_ne_true
  | bl a =>
    cases ry
    cases x with
    | non => cases rx; exact SeqAt.EqAt.bool_none a
    | bl b => cases rx; exact SeqAt.EqAt.bool_bool a b
    | int b => obtain ⟨t, rfl⟩ := rx; exact SeqAt.EqAt.bool_int a b t
    | str b => obtain ⟨t, rfl⟩ := rx; exact SeqAt.EqAt.bool_str a b t
    | _ => exact absurd (show false = true from fx) Bool.false_ne_true
  | int a =>
    obtain ⟨t', rfl⟩ := ry
    cases x with
    | non => cases rx; exact SeqAt.EqAt.int_none a t'
    | bl b => cases rx; exact SeqAt.EqAt.int_bool a t' b
    | int b => obtain ⟨t, rfl⟩ := rx; exact SeqAt.EqAt.int_int a t' b t
    | str b => obtain ⟨t, rfl⟩ := rx; exact SeqAt.EqAt.int_str a t' b t
    | _ => exact absurd (show false = true from fx) Bool.false_ne_true
  | str a =>
    obtain ⟨t', rfl⟩ := ry
    cases x with
    | non => cases rx; exact SeqAt.EqAt.str_none a t'
    | bl b => cases rx; exact SeqAt.EqAt.str_bool a t' b
    | int b => obtain ⟨t, rfl⟩ := rx; exact SeqAt.EqAt.str_int a t' b t
    | str b => obtain ⟨t, rfl⟩ := rx; exact SeqAt.EqAt.str_str a t' b t
    | _ => exact absurd (show false = true from fx) Bool.false_ne_true
  | _ => exact absurd (show false = true from fy) Bool.false_ne_true
def eqU (x : V) (u : Value) : Bool := match u with
  | .none => eqV .non x
  | .bool b => eqV (.bl b) x
  | .int i _ => eqV (.int i) x
  | .str z _ => eqV (.str z) x
  | _ => false
theorem eqU_of {x y : V} {u : Value} (r : RelV y u) (f : flatV y = true) : eqU x u = eqV y x := by
  cases y with
  | non => cases r; rfl
  | bl b => cases r; rfl
  | int i => obtain ⟨t, rfl⟩ := r; rfl
  | str z => obtain ⟨t, rfl⟩ := r; rfl
  | _ => exact absurd (show false = true from f) Bool.false_ne_true
theorem any_eqU {x : V} : ∀ {xs : List V} {us : List Value}, Vals xs us -> xs.all flatV = true -> us.any (eqU x) = xs.any fun y => eqV y x
  | _, _, .nil, _ => rfl
  | y :: xs, u :: us, .cons r t, f => by
    rw [List.all_cons, Bool.and_eq_true] at f
    rw [List.any_cons, List.any_cons, eqU_of r f.1, any_eqU t f.2]
theorem mem_eqAt {A : Around} {s : Shared} {x : V} {v : Value} (rx : RelV x v) (fx : flatV x = true) : ∀ {xs : List V} {us : List Value}, Vals xs us -> xs.all flatV = true -> ∀ u ∈ us, SeqAt.EqAt A s u v (eqU x u)
  | _, _, .nil, _ => fun u hu => by cases hu
  | y :: xs, u :: us, .cons r t, f => fun u' hu => by
    rw [List.all_cons, Bool.and_eq_true] at f
    rcases List.mem_cons.mp hu with rfl | hu
    · rw [eqU_of r f.1]; exact eqAt_V r rx f.1 fx
    · exact mem_eqAt rx fx t f.2 u' hu
def inV (x : V) (xs : List V) : Bool := xs.any fun y => eqV y x
def rIn (K : PySem.W.Frag) (neg : Bool) : R2 := fun x y H Q => ∃ p xs, y = .ref p /\ (SqL K H p xs ∨ SqT K H p xs) /\ flatV x = true /\ xs.all flatV = true /\ Q (.bl (if neg then !inV x xs else inV x xs)) H
theorem op_in_seq : OpR X (compareOp .In) (rIn X.K false) := by
  intro pins s σ H x y v u Q I rx ry h
  obtain ⟨p, xs, rfl, hq, fx, fs, q⟩ := h
  cases ry
  rcases hq with hq | hq
  · obtain ⟨its, r, pl, hz⟩ := I.list hq
    refine SeqAt.in_listAt (eqU x) pl.isList (fun w hw => mem_eqAt rx fx r fs w (by simpa using hw)) ⟨.bl _, H, I, rfl, ?_⟩
    rw [show its.toArray.any (eqU x) = its.any (eqU x) by simp, any_eqU r fs]
    exact q
  · obtain ⟨its, r, pl, hz⟩ := I.tuple hq
    refine SeqAt.in_tupleAt (eqU x) pl (fun w hw => mem_eqAt rx fx r fs w (by simpa using hw)) ⟨.bl _, H, I, rfl, ?_⟩
    rw [show its.toArray.any (eqU x) = its.any (eqU x) by simp, any_eqU r fs]
    exact q
theorem op_notIn_seq : OpR X (compareOp .NotIn) (rIn X.K true) := by
  intro pins s σ H x y v u Q I rx ry h
  obtain ⟨p, xs, rfl, hq, fx, fs, q⟩ := h
  cases ry
  rcases hq with hq | hq
  · obtain ⟨its, r, pl, hz⟩ := I.list hq
    refine SeqAt.notIn_listAt (eqU x) pl.isList (fun w hw => mem_eqAt rx fx r fs w (by simpa using hw)) ⟨.bl _, H, I, rfl, ?_⟩
    rw [show its.toArray.any (eqU x) = its.any (eqU x) by simp, any_eqU r fs]
    exact q
  · obtain ⟨its, r, pl, hz⟩ := I.tuple hq
    refine SeqAt.notIn_tupleAt (eqU x) pl (fun w hw => mem_eqAt rx fx r fs w (by simpa using hw)) ⟨.bl _, H, I, rfl, ?_⟩
    rw [show its.toArray.any (eqU x) = its.any (eqU x) by simp, any_eqU r fs]
    exact q
theorem op_notIn_str : OpR X (compareOp .NotIn) (fun x y H Q => ∃ i j, x = .str i /\ y = .str j /\ Q (.bl (!(!(Builtin.Str.occurrences j i 0 j.length 1).isEmpty))) H) := by
  intro pins s σ H x y v u Q I rx ry h
  obtain ⟨i, j, rfl, rfl, q⟩ := h
  obtain ⟨t, rfl⟩ := rx
  obtain ⟨t', rfl⟩ := ry
  exact notIn_str ⟨.bl _, H, I, rfl, q⟩
def tyV (K : PySem.W.Frag) (T : String) (x : V) (H : Hp) : Prop := match x with
  | .str _ => T = "str"
  | .int _ => T = "int"
  | .ref p => (T = "list" /\ ∃ xs, SqL K H p xs) ∨ (T = "tuple" /\ ∃ o, K.lookup p = some o /\ o.cls = .type "tuple" /\ o.dict = none) ∨
      (T = "dict" /\ ((∃ kvs, H p = some (.dK kvs)) ∨ ∃ kvs, H p = some (.dT kvs))) ∨ (T = "set" /\ ∃ S n, H p = some (.set S n))
  | _ => False
theorem tyV_is {pins : List (Addr × Obj)} {σ : St} {H : Hp} {s : Shared} {T : String} {x : V} {v : Value} (I : Inv X pins σ H s) (r : RelV x v) (ty : tyV X.K T x H) :
    s.TypeIs v T /\ ∀ a, v = .ref a -> ∃ ob, s.heap.get? a = some ob /\ ob.dict = none := by
  cases x with
  | str z =>
    obtain ⟨t, rfl⟩ := r
    cases (show T = "str" from ty)
    exact ⟨typeIs_str s z t, fun _ e => nomatch e⟩
  | int i =>
    obtain ⟨t, rfl⟩ := r
    cases (show T = "int" from ty)
    exact ⟨typeIs_int s i t, fun _ e => nomatch e⟩
  | ref p =>
    cases r
    rcases ty with ⟨rfl, xs, hq⟩ | ⟨rfl, o, hk, hc, hd⟩ | ⟨rfl, hk⟩ | ⟨rfl, S, n, hk⟩
    · obtain ⟨its, _, pl, _⟩ := I.list hq
      refine ⟨pl.isList.typeIs, fun a e => ?_⟩
      cases e
      obtain ⟨o, n, e, c, hd, _⟩ := pl
      exact ⟨o, e, hd⟩
    · refine ⟨⟨o, I.kIn p o hk, hc⟩, fun a e => ?_⟩
      cases e
      exact ⟨o, I.kIn _ o hk, hd⟩
    · have z : ∃ o, s.heap.get? p = some o /\ o.ExactDict := by
        rcases hk with ⟨kvs, hk⟩ | ⟨kvs, hk⟩
        · obtain ⟨_, _, _, _, o, _, _, e, ex, _⟩ := I.hok p _ hk
          exact ⟨o, e, ex⟩
        · obtain ⟨_, _, _, _, o, _, _, e, ex, _⟩ := I.hok p _ hk
          exact ⟨o, e, ex⟩
      obtain ⟨o, e, ex⟩ := z
      refine ⟨⟨o, e, ex.1⟩, fun a e2 => ?_⟩
      cases e2
      exact ⟨o, e, ex.2.1⟩
    · obtain ⟨o, _, _, _, e, ex, _⟩ := I.hok p _ hk
      refine ⟨⟨o, e, ex.1⟩, fun a e2 => ?_⟩
      cases e2
      exact ⟨o, e, ex.2.1⟩
  | _ => exact False.elim ty
def tBM (K : PySem.W.Frag) (T : String) (r : V -> List V -> Hp -> VK -> Prop) (to : TE) (t : TA) : TE := fun σ H Q => to σ H fun x H1 => tyV K T x H1 /\ t σ H1 fun xs H2 => r x xs H2 Q
variable {o e : Expr} {es : List Expr} {to : TE} {t : TA} {name : Str} {apos cpos : Pos} {T id : String} {r : V -> List V -> Hp -> VK -> Prop}
theorem pe_bm (pa : PlainAttrs T) (slot : Slot T name id) (hty : typeOf (.builtin id) = pure (.type "method_descriptor")) (hm : MtR X id r) (ho : PE X o to) (ha : PA X (e :: es) t)
    (hbase : attributeBase o name X.env (eval o X.env) = eval o X.env := by rfl)
    (hfew : ((backTo cpos (starEach (e :: es) X.env)).all (fun x => !x.1) && (backToKw cpos (keywordEach [] X.env)).all (fun x => x.1.isSome)
      && decide ((e :: es).length + ([] : List Keyword).length + (if ([] : List Keyword).isEmpty then 0 else 1) < 30)) = true := by rfl)
    (hline : (apos.endLine == cpos.line) = true := by rfl) (hs : starEach (e :: es) X.env = (false, eval e X.env) :: starEach es X.env := by rfl) (hplain : (backTo cpos (starEach es X.env)).any (·.1) = false := by rfl) :
    PE X (.Call (.Attribute o name apos) (e :: es) [] cpos) (tBM X.K T r to t) := by
  intro pins s σ H Q I h
  refine wpAny_Call_method_late hbase hfew hline rfl (thn (ho pins s σ H _ I h) fun v s1 ⟨x, H1, I1, r1, ty, q1⟩ => ?_)
  obtain ⟨h1, h2⟩ := tyV_is I1 r1 ty
  refine ⟨T, id, pa, slot, hty, h1, h2, ?_⟩
  have hA := ha cpos pins s1 σ H1 _ I1 q1
  rw [hs] at hA ⊢
  refine Calls.callWith_builtin (by show (false || (backTo cpos (starEach es X.env)).any (·.1)) = false; rw [hplain] <;> rfl) (Calls.evalArgs_plain ?_)
  exact thn hA fun us s2 ⟨vs, H2, I2, r2, q2⟩ => hm pins s2 σ H2 x vs v us Q I2 r1 r2 q2
/- xs.append(e), list.index on a module's tuple .. are MtR facts of 06m -/
end
def MtM (X : Cx) (id : String) (r : V -> List V -> Hp -> VK -> Prop) : Prop :=
  ∀ (pins : List (Addr × Obj)) (s : Shared) (σ : St) (H : Hp) (x : V) (xs : List V) (v : Value) (us : List Value) (Q : VK), Inv X pins σ H s -> RelV x v -> Vals xs us -> r x xs H Q ->
    wpAny (model X.prog X.w) X.A (call (.builtin id) (v :: us)) (EP X pins σ Q) X.xe s
theorem Vals.one : ∀ {x : V} {us : List Value}, Vals [x] us -> ∃ u, us = [u] /\ RelV x u
  | _, _, .cons r .nil => ⟨_, rfl, r⟩
theorem Vals.rep {xs : List V} {us : List Value} (h : Vals xs us) : ∀ k : Nat, Vals (List.replicate k xs).flatten (List.replicate k us).flatten
  | 0 => .nil
  | k + 1 => by
    rw [List.replicate_succ, List.replicate_succ, List.flatten_cons, List.flatten_cons]
    exact Vals.append h (Vals.rep h k)
theorem foldl_rep (its : List Value) : ∀ (k : Nat) (acc : List Value),
    List.foldl (fun x1 x2 => x1 ++ x2) acc.toArray (List.replicate k its.toArray) = (acc ++ (List.replicate k its).flatten).toArray
  | 0, acc => by simp
  | k + 1, acc => by
    have e : acc.toArray ++ its.toArray = (acc ++ its).toArray := by simp
    have e2 : (acc ++ its) ++ (List.replicate k its).flatten = acc ++ (List.replicate (k + 1) its).flatten := by
      rw [List.replicate_succ, List.flatten_cons, List.append_assoc]
    rw [<- e2, <- foldl_rep its k (acc ++ its), <- e, List.replicate_succ, List.foldl_cons]
section
variable {X : Cx} {pins : List (Addr × Obj)} {σ : St} {H : Hp} {s : Shared} {l b : Addr} {xs ys zs : List V}
theorem Inv.lset {its its' : List Value} {n : Nat} {f : Array Value -> Array Value} {t' : Nat} (I : Inv X pins σ H s) (hH : H l = some (.lst xs))
    (e : s.heap.get? l = some { cls := .type "list", data := .seq its.toArray n }) (hf : f its.toArray = its'.toArray) (hv : Vals ys its') (hz : ys.length <= sizeLine) :
    Inv X pins σ (upd H l (.lst ys)) { s with heap := s.heap.update l (Obj.mapSeq f), toks := t' } := by
  have q := PySem.IsL.update e f
  rw [hf] at q
  refine I.write (x := l) (e := l) (by rw [hH]; exact trivial) (.inl rfl) (fun b' u hb hu => (Heap.get?_update_other s.heap (Obj.mapSeq f) (Ne.symm hb)).trans hu) ⟨_, q⟩ ?_
  exact ⟨hz, its', _, hv, q⟩
theorem Inv.lnew {its : List Value} {t' : Nat} (I : Inv X pins σ H s) (hv : Vals ys its) (hz : ys.length <= sizeLine) :
    Inv X pins σ (upd H s.heap.objs.size (.lst ys)) { s with heap := s.heap.push { cls := .type "list", data := .seq its.toArray }, toks := t' } :=
  I.laid (fun _ _ q => Heap.get?_push_of_some _ q) (Nat.le_refl _) ⟨hz, its, 0, hv, Heap.get?_push_size _ rfl⟩
theorem Inv.fresh (I : Inv X pins σ H s) : H s.heap.objs.size = none := I.hok.fresh (Nat.le_refl _)
theorem Inv.lstM (I : Inv X pins σ H s) (hH : H l = some (.lst xs)) : xs.length <= sizeLine /\ ∃ (its : List Value) (n : Nat), Vals xs its /\ xs.length = its.length /\ s.heap.get? l = some { cls := .type "list", data := .seq its.toArray n } := by
  obtain ⟨z, its, n, r, e⟩ := I.hok l _ hH
  exact ⟨z, its, n, r, r.length, e⟩
theorem notLongL {n : Nat} (h : n <= sizeLine) : Builtin.List.listTooLong n = false := by
  unfold Builtin.List.listTooLong
  exact decide_eq_false (by omega)
end
section
variable {X : Cx}
def rAppend : V -> List V -> Hp -> VK -> Prop := fun x vs H Q => ∃ l xs y, x = .ref l /\ vs = [y] /\ H l = some (.lst xs) /\ xs.length < sizeLine /\ Q .non (upd H l (.lst (xs ++ [y])))
theorem mt_append : MtM X "list.append" rAppend := by
  intro pins s σ H x vs v us Q I rx rv h
  obtain ⟨l, xs, y, rfl, rfl, hH, hz, q⟩ := h
  cases rx
  obtain ⟨u, rfl, ru⟩ := rv.one
  obtain ⟨z, its, n, r, hl, e⟩ := I.lstM hH
  refine call_meets F.slot_list_append ⟨_, e, rfl⟩ F.entry_list_append (F.args_list_append_2 _ _) (PySem.list_append l its.toArray n u (by rw [List.size_toArray]; omega)) ⟨e, ?_⟩
  refine ⟨.non, _, I.lset (its' := its ++ [u]) hH e (by simp) (r.append (.cons ru .nil)) ?_, rfl, q⟩
  rw [List.length_append, List.length_singleton]
  omega
def rRep : R2 := fun x y H Q => ∃ l k xs, x = .ref l /\ y = .int k /\ H l = some (.lst xs) /\ -(2 ^ 63) <= k /\ k < 2 ^ 63 /\ xs.length * k.toNat <= sizeLine /\
  ∀ p, H p = none -> Q (.ref p) (upd H p (.lst (List.replicate k.toNat xs).flatten))
theorem len_rep {α : Type} (xs : List α) (k : Nat) : (List.replicate k xs).flatten.length = k * xs.length := by
  induction k with
  | zero => simp
  | succ k ih => rw [List.replicate_succ, List.flatten_cons, List.length_append, ih, Nat.succ_mul, Nat.add_comm]
theorem op_rep : OpR X (binaryOp .Mult) rRep := by
  intro pins s σ H x y v u Q I rx ry h
  obtain ⟨l, k, xs, rfl, rfl, hH, h1, h2, hz, q⟩ := h
  cases rx
  obtain ⟨t, rfl⟩ := ry
  obtain ⟨z, its, n, r, hl, e⟩ := I.lstM hH
  have hlen : its.toArray.size * k.toNat <= sizeLine := by rw [List.size_toArray, <- hl]; exact hz
  have hcap : ¬ its.toArray.size * k.toNat > (2 ^ 63 - 1) / 8 := by
    have : (sizeLine : Nat) <= (2 ^ 63 - 1) / 8 := by decide
    omega
  have hfit : ¬ (!Builtin.List.listFitsIndex k) = true := by
    rw [fitsIndex_both h1 h2]
    exact Bool.false_ne_true
  have hlong : ¬ Builtin.List.listTooLong (its.toArray.size * k.toNat) = true := by
    rw [notLongL hlen]
    exact Bool.false_ne_true
  have hnew : List.foldl (fun x1 x2 => x1 ++ x2) #[] (List.replicate (if its.toArray.isEmpty = true then 0 else k.toNat) its.toArray) = (List.replicate k.toNat its).flatten.toArray := by
    have f0 : ∀ m : Nat, List.foldl (fun x1 x2 => x1 ++ x2) #[] (List.replicate m its.toArray) = (List.replicate m its).flatten.toArray := fun m => by
      have := foldl_rep its m []
      rw [List.nil_append] at this
      exact this
    rw [f0]
    cases its with
    | nil => simp
    | cons a r' => rw [if_neg (by simp)]
  refine wpAny_binaryOp_repeat_ref (T := "list") (U := "int") (by decide) ⟨_, e, rfl⟩ (fun s' => typeIs_int s' k t) noFill_list_mul F.fills_int_mul F.slot_int_rmul repeat_list F.slot_int_index.lookup
    (call_meets F.slot_int_rmul (typeIs_int s k t) F.entry_int_rmul (F.args_int_rmul_2 _ _) (int___rmul___int_list k t l its.toArray n)
      ⟨e, rfl, ⟨_, e, rfl⟩, call_meets F.slot_list_mul ⟨_, e, rfl⟩ F.entry_list_mul (F.args_list_mul_2 _ _) (AutoListH.list___mul___list_int_3 l its.toArray n k t hfit hcap hlong) ⟨e, ?_⟩⟩)
  rw [hnew]
  exact ⟨.ref _, _, I.lnew (t' := s.toks) (r.rep k.toNat) (by rw [len_rep, Nat.mul_comm]; exact hz), rfl, q _ I.fresh⟩
end
section
variable {prog : Program} {w : World} {A : Around} {E : Value -> Shared -> Prop} {s : Shared}
end
section
variable {X : Cx}
end
end L2
namespace Att
open PySem PySem.W PySem.Calls PyProof.Rows
theorem ints_of_wellAll {P : Params} {h : Heap} : ∀ (ns : List Int) (vs : List Value), WellAll P h vs (ns.map WData.int) -> IntsAre vs ns := by
  intro ns
  induction ns with
  | nil =>
    intro vs w
    rw [List.map_nil] at w
    cases w
    exact .nil
  | cons n ns ih =>
    intro vs w
    rw [List.map_cons] at w
    cases w with
    | cons a b =>
      cases a
      exact .cons _ _ (ih _ b)
theorem script_of {l : OpenLaw} {n : Nat} (hn : l.most = some n) {P : Params} {h : Heap} {args : List WData} {vals : List Value}
    (hpre : l.row.toRowW.claim.pre args = true) (hwl : WellAll P h vals args) :
    ∃ a vs ns, vals = [Value.ref a] /\ args = [WData.list (ns.map WData.int)] /\ h.get? a = some { cls := .type "list", data := .seq vs.toArray } /\ IntsAre vs ns /\ ns.length <= n := by
  have hsh : WShape.hasAll [] args [.list .int] = true := (pre_splitW hpre).1
  have hc : l.pre.holds [] { args := args } = true := (pre_splitW hpre).2
  obtain ⟨d, r, rfl, h1, h2⟩ := hasAllW_cons hsh
  obtain rfl := hasAllW_nil h2
  obtain ⟨xs, rfl, h3⟩ := hasW_list h1
  obtain ⟨ns, rfl⟩ := items_int h3
  have hlen : ns.length <= n := by
    unfold OpenLaw.pre at hc
    have h4 : (WTm.not (.lt (.lit (.int (n : Int))) (.len (.arg 0)))).holds [] { args := [.list (ns.map .int)] } = true := by
      have h4 := (holds_andW hc).1
      rw [hn] at h4
      exact h4
    have h5 := condW_of h4 (w_not (w_lt w_lit (w_len_list (w_arg rfl))))
    rw [List.length_map] at h5
    refine Nat.le_of_not_lt fun q => ?_
    have q' : (n : Int) < ((ns.length : Nat) : Int) := by omega
    first
      | (rw [decide_eq_true q'] at h5; exact absurd h5 (by decide))
      | (simp at h5; omega)
  cases hwl with
  | cons w1 w2 =>
    cases w2
    cases w1 with
    | list ho hall => exact ⟨_, _, ns, rfl, rfl, ho, ints_of_wellAll ns _ hall, hlen⟩
theorem post_true (l : OpenLaw) (args : List WData) : l.row.toRowW.claim.post args (.bool true) args = true :=
  postW_of (r := l.row.toRowW) (X := (true == true))
    (show WShape.has [] (.bool true) .bool = true by first | rfl | decide | simp [WShape.has, WShape.arms, WShape.armsAll])
    (show (WTm.eq .res (.lit (.bool true))).value [] { args := args, res := some (.bool true), after := args } = some (.bool (true == true)) from w_eq_bool (w_res rfl) w_lit) rfl
theorem attach_call {l : OpenLaw} {n : Nat} {q : Program} {loose : List Str} {XP : (Str -> Option Value) -> Heap -> Prop} {YP : World -> Heap -> Prop} {d : DefRec}
    (hn : l.most = some n) (hdf : d.params.defaults = [])
    (call : ∀ (w : World) (s₀ s₁ : Shared) (mg mb : Str -> Option Value) (fa : Addr) (o : Obj) (pm cd doc : Value) (a : Addr) (vs : List Value) (ns : List Int),
      Ground q loose [] XP w s₀ mg mb s₁.heap -> YP w s₁.heap ->
      s₁.heap.get? fa = some o -> o.data = .func (docDef d.name d.params d.body d.scope pm cd doc) -> s₁.heap.CodeRec cd d.name -> mg d.name = some (.ref fa) ->
      s₁.heap.get? a = some { cls := .type "list", data := .seq vs.toArray } -> IntsAre vs ns -> ns.length <= n -> s₁.gens = #[] ->
      codeAny (model l.prog w) callerA (.call (.ref fa) ⟨[.ref a], []⟩) (fun r s' => r = .ok (.ret (.bool true)) /\ OldK s₁.heap s'.heap /\ s'.os = s₁.os /\ AllBare s'.gens) s₁) :
    WalkO q loose XP YP l.row.toRowW d [] (fun f vs => PySem.call f vs) := by
  intro w s₀ s₁ mg mb G Y fa o pm cd doc dV kV ho hd hcd hD hmg hg args vals as hpre hlay hrd hwl hlo
  obtain rfl : dV = .none := Dflts.none hD hdf
  obtain rfl : kV = .none := Dflts.noKw hD
  obtain ⟨a, vs, ns, rfl, rfl, hobj, hints, hlen⟩ := script_of hn hpre hwl
  refine enter_call (codeAny_mono (call w s₀ s₁ mg mb fa o pm cd doc a vs ns G Y ho (fd_plain hd) hcd hmg hobj hints hlen hg) fun r s' hq => ?_)
  obtain ⟨rfl, h2, h3, h4⟩ := hq
  exact ⟨.inl ⟨.bool true, .bool true, [], rfl, fun _ => rfl, .bool true, post_true l _, fun _ => ⟨List.Pairwise.nil, fun _ hm => (nomatch hm)⟩⟩, h2, h3, h4⟩
section
variable {prog : Program} {w : World} {A : Around} {E : Value -> Shared -> Prop} {s : Shared} {K : Frag}
def ledger (h : Heap) (L d : Addr) : List (Addr × Obj) := (List.range h.objs.size).filterMap fun a => if a = L ∨ a = d then none else (h.get? a).map fun o => (a, o)
end
end Att
namespace L2
open PySem PySem.Spec PyProof.Rows
theorem vals_ints : ∀ {vs : List Value} {ns : List Int}, IntsAre vs ns -> Vals (ns.map V.int) vs
  | _, _, .nil => .nil
  | _, _, .cons n t h => .cons ⟨t, rfl⟩ (vals_ints h)
def Only (H : Hp) : Prop := ∀ b, H b = none ∨ ∃ o xs, H b = some (.frz o (.lst xs))
theorem law_call {P : Program} {w : World} {K : PySem.W.Frag} {mg mb : Str -> Option Value} {CX : CXT} {k : Nat} {fa a : Addr} {fd : FuncData} {x : Str} {sp : Sp} {s₁ : Shared} {vs : List Value} {ns : List Int}
    (KX : K.In s₁.heap) (hns : s₁.heap.Ns mainGlobals mg) (hb : s₁.heap.Ns builtinsNs mb) (hbb : ∀ x : Str, x ≠ "__name__" -> mb x = bootBuiltins x) (hlim : s₁.heap.NoLimit) (hg : s₁.gens = #[])
    (ha : s₁.heap.get? a = some { cls := .type "list", data := .seq vs.toArray }) (hi : IntsAre vs ns) (hl : ns.length <= sizeLine) (hr : Room k callerA)
    (F : ∀ base : Heap, K.In base -> base.Ns mainGlobals mg -> FnOk P w K mg base CX k fa fd [x] sp) (hbind : ∀ (s : Shared) (u : Value), BindsTo s fd ⟨[u], []⟩ [(x, u)])
    (hsp : ∀ H : Hp, Only H -> SqL K H a (ns.map V.int) -> sp [.ref a] H (fun v _ => v = .bl true) fun _ _ _ => False)
    (hCX : ∀ H e s', CX [] H s₁ (fun _ _ _ => False) e s' -> False) :
    codeAny (model P w) callerA (.call (.ref fa) ⟨[.ref a], []⟩) (fun r s' => r = .ok (.ret (.bool true)) /\ OldK s₁.heap s'.heap /\ s'.os = s₁.os /\ AllBare s'.gens) s₁ := by
  have rv := vals_ints hi
  have lenV := hi.length
  have core : ∀ H : Hp, Only H -> SqL K H a (ns.map V.int) -> HOk P w H s₁.heap -> (∀ b, H b ≠ none -> b = a) -> (H a ≠ none -> K.lookup a = none) ->
      codeAny (model P w) callerA (.call (.ref fa) ⟨[.ref a], []⟩) (fun r s' => r = .ok (.ret (.bool true)) /\ OldK s₁.heap s'.heap /\ s'.os = s₁.os /\ AllBare s'.gens) s₁ := by
    intro H hO hS hok hA hK
    have base_of : ∀ {b : Addr} {o : Obj}, s₁.heap.get? b = some o -> H b = none -> (hidT s₁.heap H).get? b = some o := fun e n => hidT_get e n
    have noA : ∀ {b : Addr} {o : Obj} {es : Array DictEntry} {ep : Nat}, s₁.heap.get? b = some o -> o.data = .dict es ep -> H b = none := fun {b o es ep} e d => by
      cases q : H b with
      | none => rfl
      | some u =>
        have e' : b = a := hA b (by rw [q]; simp)
        subst e'
        rw [ha] at e; cases e
        have d' : Data.seq vs.toArray _ = Data.dict es ep := d
        cases d'
    have nsK : ∀ {b : Addr} {m : Str -> Option Value}, s₁.heap.Ns b m -> (hidT s₁.heap H).Ns b m := fun {b m} ⟨o, es, ep, e, d, r⟩ => ⟨o, es, ep, base_of e (noA e d), d, r⟩
    have hKb : K.In (hidT s₁.heap H) := fun b o e => base_of (KX b o e) (by
      cases q : H b with
      | none => rfl
      | some u =>
        have e' : b = a := hA b (by rw [q]; simp)
        subst e'
        rw [hK (by rw [q]; simp)] at e; cases e)
    have hM : Mod K mg (hidT s₁.heap H) := ⟨hKb, nsK hns, ⟨mb, nsK hb, hbb⟩, let ⟨mc, h1, h2⟩ := hlim; ⟨mc, nsK h1, h2⟩⟩
    have e0 : Env0 P w K mg (hidT s₁.heap H) callerA [] s₁ H := ⟨rfl, hM, fun b o e => of_hidT e, Nat.le_of_eq (hidT_size _ _), trivial, fun b hb => absurd (show b ∈ ([] : List Addr) from hb) (by simp), hok, .of_eq hg⟩
    refine codeAny_mono ((F _ hKb (nsK hns)).run callerA [] s₁ H ⟨[.ref a], []⟩ [.ref a] [.ref a] _ _ hr e0 (hbind s₁ (.ref a)) (.cons rfl .nil) (hsp H hO hS)) fun r s' h => ?_
    cases r with
    | error e => exact (hCX H e s' h).elim
    | ok fl =>
      cases fl with
      | next => exact False.elim h
      | brk => exact False.elim h
      | cont => exact False.elim h
      | ret u =>
        obtain ⟨v, H', os, bare, un, hok', r', q⟩ := h
        have q' : v = .bl true := q
        subst q'
        obtain rfl : u = Value.bool true := r'
        refine ⟨rfl, OldK.of_keep fun b o e => ?_, os, bare⟩
        cases q : H b with
        | none => exact un.keep b o e q (by intro z; exact absurd (show b ∈ ([] : List Addr) from z) (by simp)) (by simp)
        | some u =>
          rcases hO b with z | ⟨ob, xs, z⟩
          · rw [q] at z; cases z
          · have z2 := un.frzs b ob _ z
            obtain ⟨e1, _⟩ := hok b _ z
            obtain ⟨e2, _⟩ := hok' b _ z2
            rw [e] at e1; cases e1
            exact e2
  cases hk : K.lookup a with
  | some o =>
    have e := KX a o hk
    rw [ha] at e
    cases e
    refine core (fun _ => none) (fun _ => .inl rfl) (.inr ⟨_, vs.toArray, _, hk, rfl, rfl, rfl, by rw [List.size_toArray, lenV]; exact hl, by simpa using rv⟩) (fun b u z => by have z' : (none : Option HO) = some u := z; cases z') (fun b z => absurd rfl z) fun z => absurd rfl z
  | none =>
    refine core (fun b => if b = a then some (.frz { cls := .type "list", data := .seq vs.toArray } (.lst (ns.map V.int))) else none) (fun b => ?_) (.inl (.inr ⟨{ cls := .type "list", data := .seq vs.toArray }, if_pos rfl⟩)) (fun b u z => ?_) (fun b z => ?_) fun _ => hk
    · by_cases hb : b = a
      · exact .inr ⟨_, _, if_pos hb⟩
      · exact .inl (if_neg hb)
    · by_cases hb : b = a
      · have z' := (if_pos hb).symm.trans z
        cases z'
        subst hb
        exact ⟨ha, by rw [List.length_map]; exact hl, vs, _, rv, ha⟩
      · have z' := (if_neg hb).symm.trans z
        cases z'
    · by_cases hb : b = a
      · exact hb
      · exact absurd (if_neg hb) z
abbrev KOf {K : PySem.W.Frag} {h : Heap} (_ : K.In h) : PySem.W.Frag := K
theorem walk_of {l : PySem.W.OpenLaw} {n k : Nat} {q : Program} {loose : List Str} {XP : (Str -> Option Value) -> Heap -> Prop} {YP : World -> Heap -> Prop} {d : DefRec} {K : Params -> PySem.W.Frag} {CX : World -> CXT} {sp : World -> Sp} {x : Str}
    (hn : l.most = some n) (hn2 : n <= sizeLine) (hdf : d.params.defaults = []) (hr : Room k callerA)
    (hY : ∀ (w : World) (h : Heap), YP w h -> (K w.params).In h)
    (F : ∀ (w : World) (mg : Str -> Option Value) (fa : Addr) (h : Heap), (K w.params).In h -> h.Ns mainGlobals mg -> mg d.name = some (.ref fa) ->
      ∃ fd : FuncData, (∀ (s : Shared) (u : Value), BindsTo s fd ⟨[u], []⟩ [(x, u)]) /\
        ∀ base : Heap, (K w.params).In base -> base.Ns mainGlobals mg -> FnOk l.prog w (K w.params) mg base (CX w) k fa fd [x] (sp w))
    (hsp : ∀ (w : World) (H : Hp) (a : Addr) (ns : List Int), ns.length <= n -> Only H -> SqL (K w.params) H a (ns.map V.int) -> sp w [.ref a] H (fun v _ => v = .bl true) fun _ _ _ => False)
    (hCX : ∀ (w : World) (H : Hp) (s : Shared) (e : Value) (s' : Shared), CX w [] H s (fun _ _ _ => False) e s' -> False) :
    PySem.W.WalkO q loose XP YP l.row.toRowW d [] (fun f vs => PySem.call f vs) := by
  refine Att.attach_call hn hdf fun w s₀ s₁ mg mb fa o pm cd doc a vs ns G Y ho hd hcd hmg hobj hints hlen hg => ?_
  have KX := hY w _ Y
  obtain ⟨fd, hb, hF⟩ := F w mg fa _ KX G.T.g hmg
  exact law_call KX G.T.g G.T.b G.T.builtins G.T.nolimit hg hobj hints (Nat.le_trans hlen hn2) hr hF hb (fun H hO hS => hsp w H a ns hlen hO hS) fun H e s' => hCX w H s₁ e s'
end L2
/- THE LAST THEOREM (shape; LID, My.* are yours):
   My.Adr: a structure of the addresses that your layer names (classes, functions); My.Txt K t: a structure (Prop) of the equations over K;
   My.txt_mk : {K} {implicit addresses ..} (e1 : nsIn K mainGlobals "law" = some (some (.ref f))) (e2 : K.lookup f = some ⟨oc, od, .func (fnOf "law" "law" params body scope dV kV doc pm an cdv ct), sl⟩) (e3 : codeIn K cdv "law" = true) .. : ∃ t, My.Txt K t
set_option maxRecDepth 100000 in
set_option maxHeartbeats 0 in
theorem PySem.Challenge.cw_LID_holds : PySem.Challenge.rw_LID.Holds := by
  w_on; o_law; k_head; (case hw => w_witness2)
  k_fill
  refine L2.walk_of (l := PySem.Challenge.rw_LID) (n := 63) (k := 40) (x := "script") (CX := fun w => ..) (sp := fun _ => My.sp_law) rfl (by decide) rfl ⟨rfl, by decide, by decide⟩ (fun w h Y => PySem.W.kIn_of Y) ?F ?S ?C
  case F =>
    intro w mg fa h KX G hmg
    have T : ∃ t, My.Txt (L2.KOf KX) t := by
      dsimp only [L2.KOf]                          -- K must stand as «<heap const> w.params» for k_is
      refine' My.txt_mk ?e1 ?e2 ?e3 ..
      (case e1 => PySem.W.k_is)                    -- in the order: a name -> its address -> its object -> its parts
      (case e2 => PySem.W.k_is)
      ..
    obtain ⟨t, T⟩ := T
    have e0 := hmg.symm.trans (PySem.W.mg_of KX G T.law)
    cases e0                                       -- fa is the law's own address
    exact ⟨_, fun s u => .of_eq rfl, fun base kb nb => My.law_fn T kb nb⟩     -- if «.of_eq rfl» comes too early: refine' ⟨_, ?b, fun base kb nb => My.law_fn T kb nb⟩; exact fun s u => .of_eq rfl
  case S => exact fun w H a ns hl hO hS => ..
  case C => exact ..
(the tactic k_is has no namespace: write k_is) -/
namespace L2
open PySem PySem.Spec PyProof.Rows
def defArgs (s : Stmt) : Arguments := match s with
  | .FunctionDef _ a _ _ _ _ _ _ _ _ => a
  | _ => { posonlyargs := [], args := [], vararg := none, kwonlyargs := [], kw_defaults := [], kwarg := none, defaults := [] }
def defBody (s : Stmt) : List Stmt := match s with
  | .FunctionDef _ _ b _ _ _ _ _ _ _ => b
  | _ => []
def defScope (s : Stmt) : Scope := match s with
  | .FunctionDef _ _ _ _ _ _ sc _ _ _ => sc
  | _ => { kind := .function, names := [], isGenerator := false, isCoroutine := false }
abbrev CX0 : CXT := fun _ _ _ _ _ _ => False
abbrev E0 : XK := fun _ _ _ => False
theorem pass0 {X : Cx} : Passes CX0 X E0 := fun _ _ _ _ _ _ _ h => h.elim
structure Fun (K : PySem.W.Frag) (x qual : Str) (st : Stmt) (f : Addr) (fd : FuncData) : Prop where
  ex : ∃ (oc : Value) (od : Option Addr) (kV doc pm : Value) (an : Option Addr) (cdv ct : Value) (osl : Array (Option Value)),
    fd = PySem.W.fnOf x qual (defArgs st) (defBody st) (defScope st) .none kV doc pm an cdv ct /\ K.lookup f = some ⟨oc, od, .func fd, osl⟩ /\ PySem.W.codeIn K cdv qual = true
  kp : PySem.W.keepIn K (.ref f) = true
section
variable {P : Program} {w : World} {K : PySem.W.Frag} {mg : Str -> Option Value} {base : Heap}
theorem Fun.ok {x qual : Str} {st : Stmt} {f : Addr} {fd : FuncData} {N ps : List Str} {k : Nat} {sp : Sp} (F : Fun K x qual st f fd) (S : FnScope N ps (defScope st)) (len : ∀ vs H Q E, sp vs H Q E -> vs.length = ps.length)
    (hbody : ∀ (cdv : Value) (A : Around) (outer : List Env) (s : Shared) (H : Hp) (vs : List V) (Q : VK) (E : XK), Room k (A.deeper (envOfC qual (defScope st) s.heap.objs.size f cdv)) -> sp vs H Q E ->
      ∃ t, PSs (cxOf CX0 P w K mg base N qual (defScope st) f cdv A outer s H E).nox (defBody st) t /\ t { nx := fun _ H' => Q .non H', rt := Q } (start N vs) H) : FnOk P w K mg base CX0 (k + 1) f fd ps sp := by
  obtain ⟨oc, od, kV, doc, pm, an, cdv, ct, osl, rfl, lk, hcd⟩ := F.ex
  refine fn_of lk hcd S len fun A outer s H vs Q E hr hsp => ?_
  obtain ⟨t, h, q⟩ := hbody cdv A outer s H vs Q E hr hsp
  exact ⟨t, h.nox, q⟩
theorem Fun.binds {x qual : Str} {st : Stmt} {f : Addr} {fd : FuncData} {ps : List Str} (F : Fun K x qual st f fd)
    (h : ∀ (kV doc pm : Value) (an : Option Addr) (cdv ct : Value) (us : List Value), us.length = ps.length -> bindArgs (PySem.W.fnOf x qual (defArgs st) (defBody st) (defScope st) .none kV doc pm an cdv ct) ⟨us, []⟩ = pure (ps.zip us)) : Binds K fd ps [] := by
  obtain ⟨oc, od, kV, doc, pm, an, cdv, ct, osl, rfl, lk, hcd⟩ := F.ex
  exact .all (h kV doc pm an cdv ct)
theorem fun_mk {x qual : Str} {st : Stmt} {f : Addr} {oc : Value} {od an : Option Addr} {osl : Array (Option Value)} {kV doc pm cdv ct : Value} (l : K.lookup f = some ⟨oc, od, .func (PySem.W.fnOf x qual (defArgs st) (defBody st) (defScope st) .none kV doc pm an cdv ct), osl⟩)
    (c : PySem.W.codeIn K cdv qual = true) (k : PySem.W.keepIn K (.ref f) = true) : Fun K x qual st f (PySem.W.fnOf x qual (defArgs st) (defBody st) (defScope st) .none kV doc pm an cdv ct) := ⟨⟨oc, od, kV, doc, pm, an, cdv, ct, osl, rfl, l, c⟩, k⟩
end
section
variable {X : Cx}
theorem pv (i : Nat) {x : Str} {pos : Pos} (hN : X.N[i]? = some x := by rfl) (hv : Vis X.env.scope x := by first | exact Or.inl rfl | exact Or.inr (Or.inl rfl) | exact Or.inr (Or.inr rfl)) (hd : (x == ("__debug__" : Str)) = false := by decide)
    (hcd : (x == ("__classdict__" : Str)) = false := by decide) : PE X (.Name x pos) (tVar i) := pe_var hN hv hd hcd
end
theorem iteF {A B : Prop} (h : B) : if false = true then A else B := by
  rw [if_neg Bool.false_ne_true]
  exact h
theorem iteT {A B : Prop} (h : A) : if true = true then A else B := by
  rw [if_pos rfl]
  exact h
def Same (H H' : Hp) : Prop := ∀ b o, H b = some o -> H' b = some o
theorem Same.refl (H : Hp) : Same H H := fun _ _ h => h
theorem Same.trans {H H1 H2 : Hp} (a : Same H H1) (b : Same H1 H2) : Same H H2 := fun c o h => b c o (a c o h)
theorem Same.free {H H' : Hp} (e : Same H H') {l : Addr} (h : H' l = Option.none) : H l = Option.none := by
  cases q : H l with
  | none => rfl
  | some o =>
    rw [e l o q] at h
    cases h
theorem Same.seq {K : PySem.W.Frag} {H H' : Hp} {a : Addr} {xs : List V} (e : Same H H') (h : SqL K H a xs) : SqL K H' a xs := by
  rcases h with (h | ⟨o, h⟩) | h
  · exact .inl (.inl (e _ _ h))
  · exact .inl (.inr ⟨o, e _ _ h⟩)
  · exact .inr h
end L2
namespace L3
open PySem PySem.Spec L2
open PyProof.Rows hiding St
section
variable {X : Cx} {pins : List (Addr × Obj)} {σ : St} {H H' : Hp} {s : Shared} {h' : Heap}
theorem turnedN {ch : List Addr} {t' : Nat} (I : Inv X pins σ H s) (k : ∀ b o, b ∉ ch -> s.heap.get? b = some o -> h'.get? b = some o) (hf : ∀ b ∈ ch, FpOk X pins H b) : Inv X pins σ H { s with heap := h', toks := t' } := by
  have nit : ∀ b u, H b = some u -> b ∉ ch := fun b u e z => by rw [(hf b z).1] at e; cases e
  refine I.step (g' := s.gens) (d' := s.drawn) (ch := ch) (fun b hb => ?_) (fun b o _ _ hc e _ => k b o hc e) (fun b o _ _ hc e _ => ⟨o.slots, k b o hc e⟩) (fun _ _ _ _ n => n)
    (fun b o hc e => ⟨o, k b o hc e⟩) (fun _ _ e => e) (fun _ _ _ e => e) (fun b ps e => ⟨#[], by rw [e]; simp⟩) (fun m hm => ?_) (fun b u e => ?_) I.bare
  · obtain ⟨_, f1, _, f3, f4, f5⟩ := hf b hb
    exact ⟨f3, f1, f4, f5⟩
  · obtain ⟨o, es, ep, ho, r⟩ := hm
    exact ⟨o, es, ep, k _ o (fun z => (hf _ z).2.1 rfl) ho, r⟩
  · refine (I.hok b u e).stay (fun c v hc q => k c v ?_ q) (fun _ q => q) fun _ _ q => q
    rcases hc with z | z
    · rw [z]; exact nit b u e
    · exact nit c _ z
theorem stepN {ch : List Addr} {t' : Nat} {T : Addr} {o : HO} (I : Inv X pins σ H s) (k : ∀ b o, b ∉ ch -> s.heap.get? b = some o -> h'.get? b = some o) (hf : ∀ b ∈ ch, FpOk X pins H b) (hT : s.heap.objs.size <= T)
    (new : ObjOk X.prog X.w (upd H T o) h' T o) : Inv X pins σ (upd H T o) { s with heap := h', toks := t' } := by
  have nit : ∀ b u, H b = some u -> b ∉ ch := fun b u e z => by rw [(hf b z).1] at e; cases e
  have nT : H T = none := I.hok.fresh hT
  refine I.step (g' := s.gens) (d' := s.drawn) (ch := ch) (fun b hb => ?_) (fun b o _ _ hc e _ => k b o hc e) (fun b o _ _ hc e _ => ⟨o.slots, k b o hc e⟩) (fun b u _ e n => ?_)
    (fun b o hc e => ⟨o, k b o hc e⟩) (fun b xs e => by rw [upd_ne (ne_of_none e nT)]; exact e) (fun b ob u e => by rw [upd_ne (ne_of_none e nT)]; exact e) (fun b ps e => ⟨#[], by rw [upd_ne (ne_of_none e nT), e]; simp⟩) (fun m hm => ?_) (fun b u e => ?_) I.bare
  · obtain ⟨_, f1, _, f3, f4, f5⟩ := hf b hb
    exact ⟨f3, f1, f4, f5⟩
  · rw [upd_ne (Nat.ne_of_lt (Nat.lt_of_lt_of_le (Heap.lt_size e) hT))]; exact n
  · obtain ⟨o, es, ep, ho, r⟩ := hm
    exact ⟨o, es, ep, k _ o (fun z => (hf _ z).2.1 rfl) ho, r⟩
  · by_cases hb : b = T
    · subst hb; rw [upd_same] at e; cases e; exact new
    · rw [upd_ne hb] at e
      refine (I.hok b u e).stay (fun c v hc q => k c v ?_ q) (fun c q => by rw [upd_ne (ne_of_none q nT)]; exact q) fun c xs q => by rw [upd_ne (ne_of_none q nT)]; exact q
      rcases hc with z | z
      · rw [z]; exact nit b u e
      · exact nit c _ z
end
section
variable {X : Cx} {elts : List Expr} {tk : Nat} {tpos : Pos}
end
theorem compLoop_gen {prog : Program} {w : World} {A : Around} {R : Result -> Shared -> Prop} {s : Shared} {elt target iter : Expr} {ifs : List Expr} {scope : Scope} {pos : Pos} {it acc : Value} {env : Env} (I : Nat -> Shared -> Prop)
    (turn : ∀ n s, I n s -> wpAny (model prog w) A (pyNext it) (fun r s₁ => match r with
      | none => R (.ok .next) s₁
      | some v => wpAny (model prog w) A (letOwnedTupleGo target it v) (fun _ s₁' => wpAny (model prog w) A (assign target env v) (fun _ s₂ =>
          wpAny (model prog w) A (forIn ifs true fun c r => if r = true then do let ok <- isTrue c env (eval c env); pure (ForInStep.yield ok) else pure (ForInStep.yield r)) (fun ok s₃ =>
            if ok = true then wpAny (model prog w) A (eval elt env) (fun x s₄ =>
              wpAny (model prog w) A (call (.builtin "list.append") [acc, x]) (fun _ s₅ => ∃ m, m < n /\ I m s₅) (fun _ _ => False) s₄) (fun _ _ => False) s₃
            else ∃ m, m < n /\ I m s₃) (fun _ _ => False) s₂) (fun _ _ => False) s₁') (fun _ _ => False) s₁) (fun _ _ => False) s)
    (n : Nat) (h : I n s) : codeAny (model prog w) A (.compLoop (.ListComp elt [⟨target, iter, ifs, 0⟩] scope pos) 0 it acc env) R s := by
  refine codeAny_loop rfl I (fun n s hI => ?_) n h
  show wpAny _ A ((compTurn (.ListComp elt [⟨target, iter, ifs, 0⟩] scope pos) 0 it acc env).onRaise (fun x => do noteFrame x env; theTreesLotGoes x)) _ _ s
  refine wpAny_noted ?_
  rw [compTurn_list]
  refine wpAny_bind (wpAny_standAt (wpAny_bind (wpAny_mono (turn n s hI) (fun r s₁ h₁ => ?_) fun _ _ h' => h'.elim)))
  cases r with
  | none => exact wpAny_pure h₁
  | some v =>
    refine wpAny_bind (wpAny_mono h₁ (fun _ s₁' h₁' => ?_) fun _ _ h' => h'.elim)
    refine wpAny_bind (wpAny_mono h₁' (fun _ s₂ h₂ => wpAny_bind (wpAny_mono h₂ (fun ok s₃ h₃ => ?_) fun _ _ h' => h'.elim)) fun _ _ h' => h'.elim)
    cases ok with
    | false => exact wpAny_pure ⟨rfl, h₃⟩
    | true =>
      exact wpAny_bind (wpAny_bind (wpAny_mono h₃ (fun x s₄ h₄ => wpAny_bind (wpAny_mono h₄ (fun _ s₅ h₅ => wpAny_pure (wpAny_pure ⟨rfl, h₅⟩)) fun _ _ h' => h'.elim)) fun _ _ h' => h'.elim))
def clGo (cells : List (Str × Addr)) : List (Str × NameKind) -> List (Str × Addr) -> List (Str × Addr)
  | [], cs => cs
  | (n, k) :: r, cs => clGo cells r (if k == .free then (n, (cells.lookup n).getD 0) :: cs else cs)
theorem closure_of {scope : Scope} {env : Env} (h : ∀ x ∈ scope.names, x.2 = .free -> ∃ c, env.cells.lookup x.1 = some c) : closureFor scope env = pure (clGo env.cells scope.names []) := by
  simp only [closureFor]
  have go : ∀ (l : List (Str × NameKind)) (cs : List (Str × Addr)), (∀ x ∈ l, x.2 = .free -> ∃ c, env.cells.lookup x.1 = some c) ->
      (forIn l cs fun (x : Str × NameKind) (r : List (Str × Addr)) => (if (x.2 == NameKind.free) = true then do let a <- cellOf env x.1; pure (ForInStep.yield ((x.1, a) :: r)) else pure (ForInStep.yield r) : Sem (ForInStep (List (Str × Addr))))) = pure (clGo env.cells l cs) := by
    intro l
    induction l with
    | nil => intro cs _; rfl
    | cons x r ih =>
      intro cs hx
      obtain ⟨n, k⟩ := x
      rw [List.forIn_cons]
      by_cases hk : (k == NameKind.free) = true
      · obtain ⟨c, e⟩ := hx (n, k) List.mem_cons_self (by simpa using hk)
        have e' : env.cells.lookup n = some c := e
        have ec : cellOf env n = pure c := by unfold cellOf; rw [e']
        simp only [hk, if_true, ec, pure_bind]
        rw [ih _ fun y hy => hx y (List.mem_cons_of_mem _ hy)]
        simp only [clGo, hk, if_true, e', Option.getD_some]
      · simp only [hk, Bool.false_eq_true, if_false, pure_bind]
        rw [ih _ fun y hy => hx y (List.mem_cons_of_mem _ hy)]
        simp only [clGo, hk, Bool.false_eq_true, if_false]
  have := go scope.names [] h
  simpa using this
theorem clGo_sub {cells : List (Str × Addr)} : ∀ (l : List (Str × NameKind)) (cs : List (Str × Addr)) (x : Str) (c : Addr), (∀ y ∈ l, y.2 = .free -> ∃ c, cells.lookup y.1 = some c) -> (∀ x c, cs.lookup x = some c -> cells.lookup x = some c) ->
    (clGo cells l cs).lookup x = some c -> cells.lookup x = some c
  | [], cs, x, c, _, h, e => h x c e
  | (n, k) :: r, cs, x, c, hl, h, e => by
    refine clGo_sub r _ x c (fun y hy => hl y (List.mem_cons_of_mem _ hy)) (fun y d => ?_) e
    by_cases hk : (k == NameKind.free) = true
    · rw [if_pos hk]
      obtain ⟨c', e'⟩ := hl (n, k) List.mem_cons_self (by simpa using hk)
      have e' : cells.lookup n = some c' := e'
      intro q
      by_cases hy : y = n
      · subst hy
        rw [List.lookup_cons_self] at q
        rw [<- q, e']; rfl
      · rw [List.lookup_cons, beq_eq_false_iff_ne.mpr hy] at q
        exact h y d q
    · rw [if_neg hk]; exact h y d
theorem clGo_mono {cells : List (Str × Addr)} : ∀ (l : List (Str × NameKind)) (cs : List (Str × Addr)) (x : Str), (cs.lookup x).isSome = true -> ((clGo cells l cs).lookup x).isSome = true
  | [], cs, x, h => h
  | (n, k) :: r, cs, x, h => by
    refine clGo_mono r _ x ?_
    by_cases hk : (k == NameKind.free) = true
    · rw [if_pos hk]
      by_cases hy : x = n
      · subst hy; rw [List.lookup_cons_self]; rfl
      · rw [List.lookup_cons, beq_eq_false_iff_ne.mpr hy]; exact h
    · rw [if_neg hk]; exact h
theorem clGo_has {cells : List (Str × Addr)} : ∀ (l : List (Str × NameKind)) (cs : List (Str × Addr)) (x : Str), (x, NameKind.free) ∈ l -> ((clGo cells l cs).lookup x).isSome = true
  | [], cs, x, h => by simp at h
  | (n, k) :: r, cs, x, h => by
    rcases List.mem_cons.mp h with e | h
    · cases e
      exact clGo_mono r _ _ (by rw [if_pos (show (NameKind.free == NameKind.free) = true from rfl), List.lookup_cons_self]; rfl)
    · exact clGo_has r _ x h
def cxc (X : Cx) (scope : Scope) (C : Addr) (N : List Str) (s₀ : Shared) (H₀ : Hp) (fp : List Addr) (pn : List (Addr × Obj)) : Cx :=
  { X with N := N, s₀ := s₀, H₀ := H₀, env := compEnvC scope (clGo X.env.cells scope.names []) C X.env, outer := X.stack, stack := X.stack, ex := fp, fn := fun _ => false, pn := pn, xe := fun _ _ => False }
structure CompScope (X : Cx) (scope : Scope) (own : List Str) (cap : List (Str × Nat)) : Prop where
  kind : scope.kind = .function
  nocell : ∀ y ∈ scope.names, y.2 ≠ .cell
  names : ∀ y ∈ scope.names, y.2 = .local -> scope.names.lookup y.1 = some .local
  frees : ∀ y ∈ scope.names, y.2 = .free -> X.env.kindOf y.1 = some .cell ∨ X.env.kindOf y.1 = some .free
  caps : ∀ p ∈ cap, scope.names.lookup p.1 = some .free /\ X.N[p.2]? = some p.1
theorem lookup_relabel {env : Env} : ∀ {names : List (Str × NameKind)} {x : Str} {k' : NameKind},
    (names.map fun (n, k) => if (k == NameKind.free && env.scope.kind == .function && env.kindOf n == some .cell) then (n, NameKind.cell) else (n, k)).lookup x = some k' -> (k' = .cell ∨ k' = .free) -> (∀ y ∈ names, y.2 ≠ .cell) -> (x, NameKind.free) ∈ names
  | [], x, k', h, _, _ => by simp at h
  | (n, k) :: r, x, k', h, hk, hc => by
    have ih := @lookup_relabel env r x k'
    rw [List.map_cons] at h
    by_cases hq : (k == NameKind.free && env.scope.kind == .function && env.kindOf n == some .cell) = true
    · simp only [hq, if_true] at h
      have kf : k = NameKind.free := by
        simp only [Bool.and_eq_true, beq_iff_eq] at hq
        exact hq.1.1
      by_cases hx : x = n
      · subst hx; subst kf; exact List.mem_cons_self
      · rw [List.lookup_cons, beq_eq_false_iff_ne.mpr hx] at h
        exact List.mem_cons_of_mem _ (ih h hk fun y hy => hc y (List.mem_cons_of_mem _ hy))
    · simp only [hq, if_false] at h
      by_cases hx : x = n
      · subst hx
        have h' : some k = some k' := by
          have := h
          simp at this
          rw [this]
        cases h'
        rcases hk with z | z
        · exact absurd z (hc (x, k) List.mem_cons_self)
        · subst z; exact List.mem_cons_self
      · have h2 : List.lookup x (List.map (fun (n, k) => if (k == NameKind.free && env.scope.kind == .function && env.kindOf n == some .cell) then (n, NameKind.cell) else (n, k)) r) = some k' := by
          simpa [List.lookup_cons, beq_eq_false_iff_ne.mpr hx] using h
        exact List.mem_cons_of_mem _ (ih h2 hk fun y hy => hc y (List.mem_cons_of_mem _ hy))
theorem relabel_free {env : Env} : ∀ {names : List (Str × NameKind)} {x : Str}, names.lookup x = some .free ->
    (names.map fun (n, k) => if (k == NameKind.free && env.scope.kind == .function && env.kindOf n == some .cell) then (n, NameKind.cell) else (n, k)).lookup x = some .cell ∨
    (names.map fun (n, k) => if (k == NameKind.free && env.scope.kind == .function && env.kindOf n == some .cell) then (n, NameKind.cell) else (n, k)).lookup x = some .free
  | [], x, h => by simp at h
  | (n, k) :: r, x, h => by
    have ih := @relabel_free env r x
    rw [List.map_cons]
    by_cases hx : x = n
    · subst hx
      rw [List.lookup_cons_self] at h
      cases h
      by_cases hq : (NameKind.free == NameKind.free && env.scope.kind == .function && env.kindOf x == some .cell) = true
      · left; simp only [hq, if_true, List.lookup_cons_self]
      · right; simp only [hq, if_false]; simp
    · rw [List.lookup_cons, beq_eq_false_iff_ne.mpr hx] at h
      by_cases hq : (k == NameKind.free && env.scope.kind == .function && env.kindOf n == some .cell) = true
      · simp only [hq, if_true, List.lookup_cons, beq_eq_false_iff_ne.mpr hx]; exact ih h
      · have e : (if (k == NameKind.free && env.scope.kind == .function && env.kindOf n == some .cell) = true then (n, NameKind.cell) else (n, k)) = (n, k) := if_neg hq
        simp only [e, List.lookup_cons, beq_eq_false_iff_ne.mpr hx]; exact ih h
theorem mem_of_lookup' {names : List (Str × NameKind)} {x : Str} {k : NameKind} (h : names.lookup x = some k) : (x, k) ∈ names := PySem.mem_of_lookup h
theorem comp_ok {X : Cx} {scope : Scope} {own : List Str} {cap : List (Str × Nat)} (S : CompScope X scope own cap) {pins : List (Addr × Obj)} {σ : St} {H : Hp} {s : Shared} {C : Addr} {fp : List Addr} (I : Inv X pins σ H s) (hC : s.heap.objs.size <= C) (hf : ∀ b ∈ fp, FpOk X pins H b) (hlt : ∀ b ∈ fp, b < s.heap.objs.size) {N : List Str} {pn : List (Addr × Obj)} :
    (cxc X scope C N s H fp pn).Ok := by
  have hfr : ∀ y ∈ scope.names, y.2 = .free -> ∃ c, X.env.cells.lookup y.1 = some c := fun y hy hk => I.ok.has y.1 (S.frees y hy hk)
  have sub : ∀ x c, (clGo X.env.cells scope.names []).lookup x = some c -> X.env.cells.lookup x = some c := fun x c => clGo_sub _ _ x c hfr (fun x c e => by simp at e)
  refine ⟨I.ok.mod, S.kind, I.ok.glob, I.ok.blt, hC, fun x y c h1 h2 => I.ok.inj x y c (sub _ _ h1) (sub _ _ h2), fun x hx => ?_, fun x c h => (by cases h), I.ok.hd, I.ok.frames, .inl rfl, fun b hb => ⟨Nat.ne_of_lt (Nat.lt_of_lt_of_le (hlt b hb) hC), fun x c e => (hf b hb).2.2.2.2.1 x c (sub x c e)⟩, I.bs, Nat.le_trans I.ok.bsz I.sz, fun b o e hb => ?_, fun b hb z => ?_, I.stack, I.stkFree⟩
  · have hx' : (x, NameKind.free) ∈ scope.names := by
      rcases hx with z | z
      · exact lookup_relabel (env := X.env) z (.inl rfl) S.nocell
      · exact lookup_relabel (env := X.env) z (.inr rfl) S.nocell
    exact Option.isSome_iff_exists.mp (clGo_has scope.names [] x hx')
  · rcases (hf b hb).2.2.2.1 with z | z
    · exact I.ok.noex b o e z
    · exact absurd (Nat.lt_of_lt_of_le (Heap.lt_size (I.ok.bs b o e).1) z) (Nat.lt_irrefl _)
  · rcases List.mem_cons.mp (I.stkSub b z) with q | q
    · exact (hf b hb).2.1 q
    · exact (hf b hb).2.2.1 q
def tComp (wi : TI) (own : List Str) (cap : List (Str × Nat)) (g : TG) (tc : TT) (te : TE) : TE := fun σ H Q => wi σ H fun J H1 => ∃ W : Nat -> Nat -> List V -> Hp -> Prop, (∃ m, W 0 m [] H1) /\ ∀ i m ys H, W i m ys H ->
  ys.length <= sizeLine /\ ((J.stop i H /\ ∀ D, H D = none -> Q (.ref D) (upd H D (.lst ys))) ∨ (J.go i H /\ ∃ N : List V -> Hp -> Prop, (∀ ys' H', N ys' H' -> ∃ m', m' < m /\ W (i + 1) m' ys' H') /\
    ∀ x H', J.yld i H x H' -> ∀ σ1 : St, σ1.length = own.length -> g x (σ1 ++ cap.map fun p => (σ[p.2]?).getD none) H' fun σ2 H2 => (∃ σ1' : St, σ1'.length = own.length /\ σ2 = σ1' ++ cap.map fun p => (σ[p.2]?).getD none) /\
      tc σ2 H2 fun b H3 => if b = true then te σ2 H3 fun y H4 => N (ys ++ [y]) H4 else N ys H3))
def PIfs (X : Cx) (ifs : List Expr) (tc : TT) : Prop :=
  ∀ (pins : List (Addr × Obj)) (s : Shared) (σ : St) (H : Hp) (Q : Bool -> Hp -> Prop), Inv X pins σ H s -> tc σ H Q ->
    wpAny (model X.prog X.w) X.A (forIn ifs true fun c r => if r = true then do let ok <- isTrue c X.env (eval c X.env); pure (ForInStep.yield ok) else pure (ForInStep.yield r)) (TP X pins σ Q) X.xe s
def tTrue : TT := fun _ H Q => Q true H
theorem pifs_nil {X : Cx} : PIfs X [] tTrue := fun pins s σ H Q I h => wpAny_tests_nil ⟨H, I, h⟩
theorem pifs_one {X : Cx} {c : Expr} {tc : TT} (h : PT X c tc) : PIfs X [c] tc := fun pins s σ H Q I hq => wpAny_tests_one (h pins s σ H Q I hq)
theorem un_done {fs ex : List Addr} {H0 H : Hp} {h0 h h' : Heap} {D C : Addr} {o : HO} (u : Un fs ex H0 H h0 h) (hD : h0.objs.size <= D) (hC : h0.objs.size <= C) (sb : Heap.SameBut C h h') (n : H D = none) : Un fs ex H0 (upd H D o) h0 h' := by
  have ne : ∀ b ob, h0.get? b = some ob -> b ≠ C := fun b ob e => Nat.ne_of_lt (Nat.lt_of_lt_of_le (Heap.lt_size e) hC)
  have nd : ∀ b ob, h0.get? b = some ob -> b ≠ D := fun b ob e => Nat.ne_of_lt (Nat.lt_of_lt_of_le (Heap.lt_size e) hD)
  refine ⟨fun b ob e q hb hx => (sb.2 b (ne b ob e)).trans (u.keep b ob e q hb hx), fun b ob e q hb hx => ?_, fun b ob e q hx => ?_, fun b ob e hx => ?_, fun b xs e => ?_, fun b ob xs e => ?_, fun b ps e => ?_⟩
  · obtain ⟨sl, z⟩ := u.slot b ob e q hb hx
    exact ⟨sl, (sb.2 b (ne b ob e)).trans z⟩
  · rw [upd_ne (nd b ob e)]; exact u.free b ob e q hx
  · obtain ⟨o', z⟩ := u.there b ob e hx
    exact ⟨o', (sb.2 b (ne b ob e)).trans z⟩
  · have z := u.tups b xs e
    rw [upd_ne (ne_of_none z n)]; exact z
  · have z := u.frzs b ob xs e
    rw [upd_ne (ne_of_none z n)]; exact z
  · obtain ⟨m, z⟩ := u.tbls b ps e
    exact ⟨m, by rw [upd_ne (ne_of_none z n)]; exact z⟩
theorem pe_lc {X : Cx} {elt tg iter : Expr} {ifs : List Expr} {scope : Scope} {pos : Pos} {own : List Str} {cap : List (Str × Nat)} {wi : TI} {g : TG} {tc : TT} {te : TE} (hc : X.calm = true) (S : CompScope X scope own cap) (hi : PI X tg iter wi)
    (hin : ∀ C s₀ H₀ fp pn, PG (cxc X scope C (own ++ cap.map (·.1)) s₀ H₀ fp pn) tg g /\ PIfs (cxc X scope C (own ++ cap.map (·.1)) s₀ H₀ fp pn) ifs tc /\ PE (cxc X scope C (own ++ cap.map (·.1)) s₀ H₀ fp pn) elt te)
    (hs : ∀ x, foldedSetIterable iter X.env x = pure x := by intro _; rfl) :
    PE X (.ListComp elt [⟨tg, iter, ifs, 0⟩] scope pos) (tComp wi own cap g tc te) := by
  intro pins s σ H Q I h
  rw [eval_ListComp]
  have hfr : ∀ y ∈ scope.names, y.2 = .free -> ∃ c, X.env.cells.lookup y.1 = some c := fun y hy hk => I.ok.has y.1 (S.frees y hy hk)
  refine wpAny_comprehension_free (use := none) rfl hs (closure_of hfr) S.kind S.names (thn (hi pins s σ H _ I h) fun xv s₁ h₁ => thn h₁ fun it s₂ h₂ => ?_)
  obtain ⟨it, fp, tn, J, H2, rfl, I2, T, st2, f2, W, ⟨m0, w0⟩, turn⟩ := h₂
  refine wpAny_newObj_type (wpAny_newFunctionEnv S.nocell (by intro y hy; simp at hy) (fun h₁ hns₁ hsb₁ => ?_) S.kind)
  dsimp only at hns₁ hsb₁ ⊢
  generalize hH3 : s₂.heap.push { cls := .type "list", dict := none, data := .seq ([] : List Value).toArray } = h3 at hns₁ hsb₁ ⊢
  have hC : h3.objs.size = s₂.heap.objs.size + 1 := by rw [<- hH3, Heap.size_push]
  have flt : ∀ b ∈ fp, b < s₂.heap.objs.size := fun b hb => let ⟨o, e, _⟩ := T.obj _ _ st2 b hb; Heap.lt_size e
  have old : ∀ b o, s₂.heap.get? b = some o -> h₁.get? b = some o := fun b o e => hsb₁.extBut b o (by rw [hC]; exact Nat.ne_of_lt (Nat.lt_succ_of_lt (Heap.lt_size e))) (Heap.get?_push_of_some _ (hH3 ▸ Heap.get?_push_of_some _ e))
  have hDC : s₂.heap.objs.size ≠ h3.objs.size := by rw [hC]; exact Nat.ne_of_lt (Nat.lt_succ_self _)
  have hacc : h₁.get? s₂.heap.objs.size = some { cls := .type "list", data := .seq ([] : List Value).toArray } := hsb₁.extBut _ _ hDC (Heap.get?_push_of_some _ (hH3 ▸ Heap.get?_push_size _ rfl))
  generalize hD : s₂.heap.objs.size = D at hacc hDC
  have hCle : s₂.heap.objs.size <= h3.objs.size := by rw [hC]; exact Nat.le_succ _
  generalize hCC : h3.objs.size = C at *
  have ok : (cxc X scope C (own ++ cap.map (·.1)) s₂ H2 fp (X.pn ++ pins)).Ok := comp_ok S I2 hCle f2 flt
  have sub : ∀ x c, (clGo X.env.cells scope.names []).lookup x = some c -> X.env.cells.lookup x = some c := fun x c => clGo_sub _ _ x c hfr (fun x c e => by simp at e)
  obtain ⟨hG, hT, hE⟩ := hin C s₂ H2 fp (X.pn ++ pins)
  have fl : ∀ {α : Type} {t : Sem α} {Q : α -> Shared -> Prop} {E : Value -> Shared -> Prop} {s : Shared}, wpAny (model X.prog X.w) X.A t Q (fun _ _ => False) s -> wpAny (model X.prog X.w) X.A t Q E s := fun h => wpAny_mono h (fun _ _ q => q) fun _ _ f => f.elim
  have dn : D ∉ frs X.stack := fun z => by
    rcases List.mem_cons.mp (I2.stkSub D z) with q | q
    · exact absurd I2.lt (by rw [<- q, hD]; exact Nat.lt_irrefl _)
    · exact I2.nofs (Nat.le_of_eq hD) q
  have pnl : ∀ p ∈ X.pn ++ pins, p.1 < s₂.heap.objs.size := fun p hp => Heap.lt_size (I2.pin p hp).1
  have celt : ∀ x c, (clGo X.env.cells scope.names []).lookup x = some c -> c < s₂.heap.objs.size := fun x c e => let ⟨v, q⟩ := I2.cell x c (sub x c e); q.lt
  have hDle : s₂.heap.objs.size <= D := Nat.le_of_eq hD
  have I0 : Inv (cxc X scope C (own ++ cap.map (·.1)) s₂ H2 fp (X.pn ++ pins)) [(D, { cls := .type "list", data := .seq ([] : List Value).toArray })] (List.replicate own.length none ++ cap.map fun p => (σ[p.2]?).getD none) H2 { s₂ with heap := h₁, toks := s₂.toks + ([] : List (Str × Value)).length } := by
    refine ⟨ok, rfl, I2.bare, Un.kept old, ⟨_, hns₁, fun i x v e1 e2 e3 => ?_⟩, fun x c e => ?_, I2.hok.fresh hCle, fun x c e => I2.freeC x c (sub x c e), fun p hp => ?_, I2.hok.kept old, ?_⟩
    · by_cases hi : i < own.length
      · rw [List.getElem?_append_left (by simpa using hi), List.getElem?_replicate] at e2
        rw [if_pos hi] at e2
        cases e2
      · have e1 : (own ++ cap.map (·.1))[i]? = some x := e1
        rw [List.getElem?_append_right (by omega), List.getElem?_map] at e1
        rw [List.getElem?_append_right (by simpa using hi), List.length_replicate, List.getElem?_map] at e2
        cases q : cap[i - own.length]? with
        | none => rw [q] at e1; cases e1
        | some p =>
          rw [q] at e1 e2
          have e1 : p.1 = x := Option.some.inj e1
          have e2 : (σ[p.2]?).getD none = some v := Option.some.inj e2
          obtain ⟨c1, c2⟩ := S.caps p (List.mem_of_getElem? q)
          have e2' : σ[p.2]? = some (some v) := by
            cases q2 : σ[p.2]? with
            | none => rw [q2] at e2; cases e2
            | some w => rw [q2] at e2; rw [show w = some v from e2]
          have hk := S.frees (p.1, .free) (mem_of_lookup' c1) rfl
          obtain ⟨m, hn, hl⟩ := I2.loc
          obtain ⟨u, ru, lk⟩ := hl p.2 p.1 v c2 e2' (.inr hk)
          refine ⟨u, ru, .inr ?_⟩
          rcases lk with ⟨k1, _⟩ | ⟨_, c, ec, hcell⟩
          · rcases hk with z | z
            · rw [k1] at z; cases z
            · rw [k1] at z; cases z
          · subst e1
            refine ⟨relabel_free (env := X.env) c1, ?_⟩
            obtain ⟨c', ec'⟩ := Option.isSome_iff_exists.mp (clGo_has (cells := X.env.cells) scope.names [] p.1 (mem_of_lookup' c1))
            have z := sub _ _ ec'
            rw [ec] at z; cases z
            obtain ⟨o, ho, hd⟩ := hcell
            exact ⟨c, ec', o, old c o ho, hd⟩
    · obtain ⟨v, o, ho, hd⟩ := I2.cell x c (sub x c e)
      exact ⟨v, o, old c o ho, hd⟩
    · rcases List.mem_append.mp (show p ∈ (X.pn ++ pins) ++ [(D, _)] from hp) with hp | hp
      · obtain ⟨q1, q2, q3, q4, q5⟩ := I2.pin p hp
        refine ⟨old _ _ q1, q2, Nat.ne_of_lt (Nat.lt_of_lt_of_le (Heap.lt_size q1) hCle), fun z => ?_, q5⟩
        rcases List.mem_cons.mp (I2.stkSub p.1 z) with q | q
        · exact q3 q
        · exact q4 q
      · rw [List.mem_singleton.mp hp]
        exact ⟨hacc, I2.hok.fresh hDle, hDC, dn, fun v z => by cases z⟩
    · show (List.replicate own.length none ++ cap.map _).length = (own ++ cap.map _).length
      simp
  have stat : ∀ {H' : Hp} {pl : List (Addr × Obj)}, (∀ p ∈ pl, p.1 = D ∨ p.1 ∈ fp -> p.1 = D) -> (∀ b ∈ fp, H' b = none) -> ∀ b ∈ fp, FpOk (cxc X scope C (own ++ cap.map (·.1)) s₂ H2 fp (X.pn ++ pins)) pl H' b := by
    intro H' pl hpl hn b hb
    refine ⟨hn b hb, Nat.ne_of_lt (Nat.lt_of_lt_of_le (flt b hb) hCle), fun z => ?_, .inl hb, fun x c e => (f2 b hb).2.2.2.2.1 x c (sub x c e), fun p hp => ?_⟩
    · rcases List.mem_cons.mp (I2.stkSub b z) with q | q
      · exact (f2 b hb).2.1 q
      · exact (f2 b hb).2.2.1 q
    · rcases List.mem_append.mp (show p ∈ (X.pn ++ pins) ++ pl from hp) with hp | hp
      · exact (f2 b hb).2.2.2.2.2 p hp
      · intro z
        have := hpl p hp (.inr (z ▸ hb))
        rw [z] at this
        exact absurd (flt b hb) (by rw [this, hD]; exact Nat.lt_irrefl _)
  have loop : ∀ s₃ : Shared, s₃ = { s₂ with heap := h₁, toks := s₂.toks + ([] : List (Str × Value)).length } ->
      codeAny (model X.prog X.w) X.A (.compLoop (.ListComp elt [⟨tg, iter, ifs, 0⟩] scope pos) 0 (.ref it) (.ref D) (compEnvC scope (clGo X.env.cells scope.names []) C X.env)) (compPost (model X.prog X.w) X.A X.xe none (EP X pins σ Q) (.ref D) C) s₃ := by
    rintro s₃ rfl
    refine compLoop_gen (fun n s' => ∃ i ys its k σ1 H', Inv (cxc X scope C (own ++ cap.map (·.1)) s₂ H2 fp (X.pn ++ pins)) [(D, { cls := .type "list", data := .seq (List.toArray its) k })] (σ1 ++ cap.map fun p => (σ[p.2]?).getD none) H' s' /\ σ1.length = own.length /\ Vals ys its /\ tn i s'.heap /\ (∀ b ∈ fp, H' b = none) /\ W i n ys H') ?_ m0
      ⟨0, [], [], 0, _, H2, I0, by simp, .nil, T.keep _ _ _ st2 fun b hb o e => old b o e, fun b hb => (f2 b hb).1, w0⟩
    rintro n s' ⟨i, ys, its, k, σ1, H', J1, hσ, rv, st1, fr1, w1⟩
    obtain ⟨hsz, ⟨stop, qn⟩ | ⟨go, N, hN, step⟩⟩ := turn i n ys H' w1
    · refine thn (T.done (cxc X scope C (own ++ cap.map (·.1)) s₂ H2 fp (X.pn ++ pins)) rfl rfl rfl hc i _ s' _ H' (fun _ _ => False) J1 (stat (by intro p hp _; rw [List.mem_singleton.mp hp]) fr1) st1 stop) fun r s4 ⟨hr, I4⟩ => ?_
      subst hr
      obtain ⟨m4, hn4, _⟩ := I4.loc
      refine ⟨m4, hn4, fun h' sb => ?_⟩
      obtain ⟨pD1, pD2, pD3, pD4, pD5⟩ := I4.pin (D, _) (List.mem_append_right _ List.mem_cons_self)
      have u := un_done (o := .lst ys) I4.base hDle hCle sb pD2
      refine ⟨.ref D, upd H' D (.lst ys), I2.call' (s' := { s4 with heap := h' }) (ch := fp) I4.os u ?_ I4.bare fun b hb => ?_, rfl, qn D pD2⟩
      · intro b ob e
        by_cases hb : b = D
        · subst hb
          rw [upd_same] at e; cases e
          exact ⟨hsz, its, k, rv, (sb.2 _ pD3).trans pD1⟩
        · rw [upd_ne hb] at e
          refine (I4.hok b ob e).stay (fun c v hc' q => (sb.2 c ?_).trans q) (fun c q => by rw [upd_ne (ne_of_none q pD2)]; exact q) fun c xs q => by rw [upd_ne (ne_of_none q pD2)]; exact q
          have hCn : H' C = none := I4.free
          rcases hc' with z | z
          · rw [z]; exact ne_of_none e hCn
          · exact ne_of_none z hCn
      · obtain ⟨q1, q2, q3, q4, q5, q6⟩ := f2 b hb
        exact ⟨q4, q2, q5, q6⟩
    · refine thn (T.item (cxc X scope C (own ++ cap.map (·.1)) s₂ H2 fp (X.pn ++ pins)) rfl rfl rfl hc i _ s' _ H' (fun _ _ => False) J1 (stat (by intro p hp _; rw [List.mem_singleton.mp hp]) fr1) st1 go) fun r s4 ⟨u, hr, h4⟩ => ?_
      subst hr
      refine thn h4 fun _ s5 ⟨x, H5, I5, r5, y5, st5, fr5⟩ => ?_
      have I5' := I5.pinned (stat (by intro p hp _; rw [List.mem_singleton.mp hp]) fr5) (T.obj _ _ st5)
      refine thn (hG _ s5 _ H5 x u _ I5' r5 (step x H5 y5 σ1 hσ)) fun _ s6 ⟨σ6, H6, I6, ⟨σ1', l6, e6⟩, q6⟩ => ?_
      subst e6
      refine thn (hT _ s6 _ H6 _ I6 q6) fun ok s7 ⟨H7, I7, q7⟩ => ?_
      have again : ∀ {s8 : Shared} {H8 : Hp} {ys8 : List V} {its8 : List Value} {k8 : Nat}, Inv (cxc X scope C (own ++ cap.map (·.1)) s₂ H2 fp (X.pn ++ pins)) ([(D, { cls := .type "list", data := .seq (List.toArray its8) k8 })] ++ pinsAt fp s5.heap) (σ1' ++ cap.map fun p => (σ[p.2]?).getD none) H8 s8 -> Vals ys8 its8 -> N ys8 H8 ->
          ∃ m, m < n /\ ∃ i ys its k σ1 H', Inv (cxc X scope C (own ++ cap.map (·.1)) s₂ H2 fp (X.pn ++ pins)) [(D, { cls := .type "list", data := .seq (List.toArray its) k })] (σ1 ++ cap.map fun p => (σ[p.2]?).getD none) H' s8 /\ σ1.length = own.length /\ Vals ys its /\ tn i s8.heap /\ (∀ b ∈ fp, H' b = none) /\ W i m ys H' := by
        intro s8 H8 ys8 its8 k8 I8 rv8 n8
        obtain ⟨m', hm, w8⟩ := hN ys8 H8 n8
        refine ⟨m', hm, i + 1, ys8, its8, k8, σ1', H8, I8.unpinned, l6, rv8, T.keep _ _ _ st5 fun b hb o e => (I8.pin (b, o) (List.mem_append_right _ (List.mem_append_right _ (mem_pinsAt hb e)))).1, fun b hb => ?_, w8⟩
        obtain ⟨o, e, d⟩ := T.obj _ _ st5 b hb
        exact (I8.pin (b, o) (List.mem_append_right _ (List.mem_append_right _ (mem_pinsAt hb e)))).2.1
      cases ok with
      | false => exact again I7 rv q7
      | true =>
        refine thn (hE _ s7 _ H7 _ I7 q7) fun y s8 ⟨v8, H8, I8, r8, q8⟩ => ?_
        obtain ⟨pD1, pD2, pD3, pD4, pD5⟩ := I8.pin (D, _) (List.mem_append_right _ List.mem_cons_self)
        have hsz' : its.toArray.size <= sizeLine := by rw [List.size_toArray, <- rv.length]; exact hsz
        refine wpAny_list_append_plain (hsz := hsz') (items := its.toArray) ⟨k, pD1⟩ fun h9 pl9 sb9 => ?_
        obtain ⟨k9, e9⟩ := pl9
        have ea : its.toArray.push y = (its ++ [y]).toArray := by simp
        rw [ea] at e9
        have I8' : Inv (cxc X scope C (own ++ cap.map (·.1)) s₂ H2 fp (X.pn ++ pins)) (pinsAt fp s5.heap) (σ1' ++ cap.map fun p => (σ[p.2]?).getD none) H8 s8 := I8.pins_of fun p hp => I8.pin p (List.mem_append_right _ (List.mem_append_right _ hp))
        have fD : FpOk (cxc X scope C (own ++ cap.map (·.1)) s₂ H2 fp (X.pn ++ pins)) (pinsAt fp s5.heap) H8 D := by
          refine ⟨pD2, pD3, pD4, .inr hDle, fun x c e z => ?_, fun p hp z => ?_⟩
          · exact absurd (celt x c e) (by rw [z, hD]; exact Nat.lt_irrefl _)
          · rcases List.mem_append.mp (show p ∈ (X.pn ++ pins) ++ _ from hp) with hp | hp
            · exact absurd (pnl p hp) (by rw [z, hD]; exact Nat.lt_irrefl _)
            · exact absurd (flt p.1 (of_pinsAt hp).1) (by rw [z, hD]; exact Nat.lt_irrefl _)
        have I9 : Inv (cxc X scope C (own ++ cap.map (·.1)) s₂ H2 fp (X.pn ++ pins)) (pinsAt fp s5.heap) (σ1' ++ cap.map fun p => (σ[p.2]?).getD none) H8 { s8 with heap := h9 } := turnedN (t' := s8.toks) (ch := [D]) I8' (fun b o hb e => (sb9.2 b fun z => hb (by simp [z])).trans e) fun b hb => by rw [List.mem_singleton.mp hb]; exact fD
        have I10 : Inv (cxc X scope C (own ++ cap.map (·.1)) s₂ H2 fp (X.pn ++ pins)) ([(D, { cls := .type "list", data := .seq (its ++ [y]).toArray k9 })] ++ pinsAt fp s5.heap) (σ1' ++ cap.map fun p => (σ[p.2]?).getD none) H8 { s8 with heap := h9 } := I9.pins_of fun p hp => by
          rcases List.mem_append.mp hp with hp | hp
          · rw [List.mem_singleton.mp hp]
            exact ⟨e9, pD2, pD3, pD4, fun v z => by cases z⟩
          · exact I9.pin p (List.mem_append_right _ hp)
        exact again (s8 := { s8 with heap := h9 }) I10 (rv.append (.cons r8 .nil)) q8
  subst hD
  exact codeAny_compStart_list (loop _ rfl) (T.self _ 0 _ _ _ (T.keep _ _ _ st2 fun b hb o e => old b o e) (loop _ rfl))
end L3
namespace L2
open PySem PySem.Spec PyProof.Rows
section
variable {κ : Type} [DecidableEq κ]
end
section
variable {P : Program} {w : World} {H : Hp} {h : Heap} {a : Addr}
end
section
variable {X : Cx} {pins : List (Addr × Obj)} {σ : St} {H : Hp} {s : Shared} {a : Addr} {y v : V} {u r : Value} {o : Option V} {A : Around} {E : Value -> Shared -> Prop}
end
section
variable {X : Cx} {pins : List (Addr × Obj)} {σ : St} {H : Hp} {s : Shared} {a : Addr} {kvs : List (Key × V)} {k : Key} {u : Value} {A : Around} {E : Value -> Shared -> Prop}
end
section
variable {X : Cx} {o i e value : Expr} {pos pos' tpos : Pos} {td ty tv : TE}
end
section
variable {X : Cx} {pos : Pos}
end
structure M1 (X : Cx) (o : Expr) (m : Str) (apos : Pos) (e : Expr) (cpos : Pos) : Prop where
  base : attributeBase o m X.env (eval o X.env) = eval o X.env
  few : ((backTo cpos (starEach [e] X.env)).all (fun x => !x.1) && (backToKw cpos (keywordEach [] X.env)).all (fun x => x.1.isSome)
    && decide (([e] : List Expr).length + ([] : List Keyword).length + (if ([] : List Keyword).isEmpty then 0 else 1) < 30)) = true
  line : (apos.endLine == cpos.line) = true
  trees : backTo cpos (starEach [e] X.env) = [(false, eval e X.env)]
structure M2 (X : Cx) (o : Expr) (m : Str) (apos : Pos) (e f : Expr) (cpos : Pos) : Prop where
  base : attributeBase o m X.env (eval o X.env) = eval o X.env
  few : ((backTo cpos (starEach [e, f] X.env)).all (fun x => !x.1) && (backToKw cpos (keywordEach [] X.env)).all (fun x => x.1.isSome)
    && decide (([e, f] : List Expr).length + ([] : List Keyword).length + (if ([] : List Keyword).isEmpty then 0 else 1) < 30)) = true
  line : (apos.endLine == cpos.line) = true
  trees : backTo cpos (starEach [e, f] X.env) = [(false, eval e X.env), (false, eval f X.env)]
section
variable {X : Cx} {pins : List (Addr × Obj)} {σ : St} {H : Hp} {s : Shared} {a : Addr} {y d : V} {u r : Value} {o : Option V} {A : Around} {E : Value -> Shared -> Prop}
end
section
variable {X : Cx} {o e f : Expr} {apos cpos : Pos} {td ty tx : TE}
end
section
variable {X : Cx} {pins : List (Addr × Obj)} {σ : St} {H : Hp} {s : Shared} {a : Addr} {kvs : List (Key × V)} {A : Around} {E : Value -> Shared -> Prop}
end
section
variable {X : Cx} {pins : List (Addr × Obj)} {σ : St} {H : Hp} {s : Shared} {a : Addr} {y : V} {u : Value} {A : Around} {E : Value -> Shared -> Prop}
end
end L2
namespace L4
open PySem PySem.Spec L2 L3
open PyProof.Rows hiding St
def dxp (w : World) (a : Addr) (o : Obj) (kvs : List (Key × V)) : Heap -> Prop := fun h => h.get? a = some o /\ kvs.length <= sizeLine /\ (a == sysModules) = false /\ ∃ vs, KV kvs vs /\ ∀ P, o.IsDictOf (mixKind P w) vs
def DX (w : World) (a : Addr) (o : Obj) (kvs : List (Key × V)) : HO := .ext (dxp w a o kvs)
section
variable {X : Cx} {pins : List (Addr × Obj)} {σ : St} {H : Hp} {s : Shared} {a : Addr} {ob : Obj} {kvs : List (Key × V)} {k : Key} {y v : V} {u r : Value} {A : Around} {E : Value -> Shared -> Prop}
end
section
variable {X : Cx} {o i e f value : Expr} {pos pos' tpos apos cpos : Pos} {td ty tv tx : TE}
end
section
variable {X : Cx} {pins : List (Addr × Obj)} {σ : St} {H : Hp} {s : Shared} {a : Addr} {ob : Obj} {kvs : List (Key × V)}
end
inductive PairsAt (P : Program) (w : World) (h : Heap) : List Value -> List (Key × Value) -> Prop
  | nil : PairsAt P w h [] []
  | cons {a : Addr} {r : List Value} {k : Key} {kv v : Value} {kvs : List (Key × Value)} : h.IsTuple a #[kv, v] -> (mixKind P w).is k kv = true -> PairsAt P w h r kvs -> PairsAt P w h (.ref a :: r) ((k, v) :: kvs)
section
variable {prog : Program} {w : World} {A : Around} {s : Shared} {R : Result -> Shared -> Prop}
end
section
variable {prog : Program} {w : World} {A : Around} {E : Value -> Shared -> Prop} {s : Shared}
end
inductive PairsV (K : PySem.W.Frag) (H : Hp) : List V -> List (Key × V) -> Prop
  | nil : PairsV K H [] []
  | cons {a : Addr} {r : List V} {k : Key} {v : V} {kvs : List (Key × V)} : SqT K H a [kV k, v] -> PairsV K H r kvs -> PairsV K H (.ref a :: r) ((k, v) :: kvs)
section
variable {X : Cx} {pins : List (Addr × Obj)} {σ : St} {H : Hp} {s : Shared}
end
section
variable {X : Cx}
end
theorem vals_of : ∀ {xs : List V} {us : List Value}, xs.length = us.length -> (∀ (j : Nat) x u, xs[j]? = some x -> us[j]? = some u -> RelV x u) -> Vals xs us
  | [], [], _, _ => .nil
  | [], _ :: _, h, _ => by simp at h
  | _ :: _, [], h, _ => by simp at h
  | x :: xs, u :: us, h, k => .cons (k 0 x u rfl rfl) (vals_of (by simpa using h) fun j y w h1 h2 => k (j + 1) y w (by simpa using h1) (by simpa using h2))
section
variable {X : Cx} {pins : List (Addr × Obj)} {σ : St} {H : Hp} {s : Shared} {a v : Addr} {ob : Obj} {kvs : List (Key × V)} {cls : String}
end
structure M0 (X : Cx) (o : Expr) (m : Str) (apos cpos : Pos) : Prop where
  base : attributeBase o m X.env (eval o X.env) = eval o X.env
  line : (apos.endLine == cpos.line) = true
section
variable {X : Cx} {o : Expr} {apos cpos : Pos} {td : TE}
end
section
variable {X : Cx} {pins : List (Addr × Obj)} {σ : St} {H : Hp} {s : Shared} {a b : Addr} {oa ob : Obj} {ka kb : List (Key × Int)} {A : Around} {E : Value -> Shared -> Prop}
end
section
variable {X : Cx} {i o : Expr} {ta tb : TE}
end
section
variable {X : Cx} {pins : List (Addr × Obj)} {σ : St} {H : Hp} {s : Shared} {a : Addr} {ob : Obj} {kvs : List (Key × V)}
end
section
variable {X : Cx} {pins : List (Addr × Obj)} {σ : St} {H H' : Hp} {s : Shared} {h' : Heap}
end
end L4
namespace Dv
open PySem PySem.Spec L2 L3 L4
open PyProof.Rows hiding St
structure KW where
  fr : PySem.W.Frag
  w : World
instance : Coe KW PySem.W.Frag := ⟨KW.fr⟩
abbrev _root_.L2.Cx.kw (X : Cx) : KW := ⟨X.K, X.w⟩
inductive D where
  | non | bl (b : Bool) | int (i : Int) | str (x : Str) | lst (xs : List D) | tup (xs : List D) | scr (ns : List Int) | obj (C : Addr) (fs : List Str) (ds : List D)
    | emp
mutual
def Rp (K : KW) (F : Hp) : D -> V -> Prop
  | .non, v => v = .non
  | .bl b, v => v = .bl b
  | .int i, v => v = .int i
  | .str x, v => v = .str x
  | .lst ds, v => ∃ a vs, v = .ref a /\ F a = some (.lst vs) /\ Rps K F ds vs
  | .tup ds, v => ∃ a vs, v = .ref a /\ F a = some (.tup vs) /\ Rps K F ds vs
  | .scr ns, v => ∃ a, v = .ref a /\ SqL K F a (ns.map V.int)
  | .obj C fs ds, v => ∃ a dx vs, v = .ref a /\ F a = some (.ins C dx (fs.zip vs)) /\ fs.length = vs.length /\ Rps K F ds vs
  | .emp, v => ∃ a, v = .ref a /\ F a = some (.dK [])
def Rps (K : KW) (F : Hp) : List D -> List V -> Prop
  | [], vs => vs = []
  | d :: ds, vs => ∃ v r, vs = v :: r /\ Rp K F d v /\ Rps K F ds r
end
mutual
theorem Rp.mono {K : KW} {F F' : Hp} (s : Same F F') : ∀ {d : D} {v : V}, Rp K F d v -> Rp K F' d v
  | .non, _, h => h
  | .bl _, _, h => h
  | .int _, _, h => h
  | .str _, _, h => h
  | .lst _, _, ⟨a, vs, e, q, r⟩ => ⟨a, vs, e, s _ _ q, Rps.mono s r⟩
  | .tup _, _, ⟨a, vs, e, q, r⟩ => ⟨a, vs, e, s _ _ q, Rps.mono s r⟩
  | .scr _, _, ⟨a, e, q⟩ => ⟨a, e, s.seq q⟩
  | .obj _ _ _, _, ⟨a, dx, vs, e, q, l, r⟩ => ⟨a, dx, vs, e, s _ _ q, l, Rps.mono s r⟩
  | .emp, _, ⟨a, e, q⟩ => ⟨a, e, s _ _ q⟩
theorem Rps.mono {K : KW} {F F' : Hp} (s : Same F F') : ∀ {ds : List D} {vs : List V}, Rps K F ds vs -> Rps K F' ds vs
  | [], _, h => h
  | _ :: _, _, ⟨v, r, e, h, t⟩ => ⟨v, r, e, Rp.mono s h, Rps.mono s t⟩
end
section
variable {K : KW} {F F' H H' : Hp}
theorem Rps.length : ∀ {ds : List D} {vs : List V}, Rps K F ds vs -> ds.length = vs.length
  | [], _, h => by cases h; rfl
  | _ :: _, _, ⟨_, _, e, _, t⟩ => by subst e; simp [Rps.length t]
theorem Rps.append : ∀ {ds es : List D} {vs ws : List V}, Rps K F ds vs -> Rps K F es ws -> Rps K F (ds ++ es) (vs ++ ws)
  | [], _, _, _, h, t => by cases h; exact t
  | _ :: _, _, _, _, ⟨v, r, e, h, t⟩, q => by subst e; exact ⟨v, _, rfl, h, Rps.append t q⟩
theorem Rps.get : ∀ {ds : List D} {vs : List V} {i : Nat} {d : D}, Rps K F ds vs -> ds[i]? = some d -> ∃ v, vs[i]? = some v /\ Rp K F d v
  | [], _, _, _, _, e => by simp at e
  | _ :: _, _, 0, _, ⟨v, r, e, h, t⟩, q => by subst e; simp at q; subst q; exact ⟨v, rfl, h⟩
  | _ :: _, _, i + 1, _, ⟨v, r, e, h, t⟩, q => by
    subst e
    obtain ⟨w, h1, h2⟩ := Rps.get (i := i) t (by simpa using q)
    exact ⟨w, by simpa using h1, h2⟩
theorem Rps.get' : ∀ {ds : List D} {vs : List V} {i : Nat} {v : V}, Rps K F ds vs -> vs[i]? = some v -> ∃ d, ds[i]? = some d /\ Rp K F d v := fun {ds vs i v} r e => by
  have hl := r.length
  have hi : i < vs.length := (List.getElem?_eq_some_iff.mp e).1
  have hd : ds[i]? = some ds[i] := List.getElem?_eq_getElem (by omega)
  obtain ⟨w, h1, h2⟩ := r.get hd
  rw [e] at h1; cases h1
  exact ⟨_, hd, h2⟩
theorem Rps.take : ∀ {ds : List D} {vs : List V} (n : Nat), Rps K F ds vs -> Rps K F (ds.take n) (vs.take n)
  | _, _, 0, _ => rfl
  | [], _, _ + 1, h => by cases h; rfl
  | _ :: _, _, n + 1, ⟨v, r, e, h, t⟩ => by subst e; exact ⟨v, _, rfl, h, Rps.take n t⟩
theorem Rps.drop : ∀ {ds : List D} {vs : List V} (n : Nat), Rps K F ds vs -> Rps K F (ds.drop n) (vs.drop n)
  | _, _, 0, r => r
  | [], _, _ + 1, h => by cases h; rfl
  | _ :: _, _, n + 1, ⟨v, r, e, h, t⟩ => by subst e; exact Rps.drop n t
theorem Rps.set {d : D} {v : V} (hd : Rp K F d v) : ∀ {ds : List D} {vs : List V} (n : Nat), Rps K F ds vs -> Rps K F (ds.set n d) (vs.set n v)
  | [], _, _, h => by cases h; rfl
  | _ :: _, _, 0, ⟨w, r, e, h, t⟩ => by subst e; exact ⟨v, r, rfl, hd, t⟩
  | _ :: _, _, n + 1, ⟨w, r, e, h, t⟩ => by subst e; exact ⟨w, _, rfl, h, Rps.set hd n t⟩
theorem Rps.snoc {ds : List D} {vs : List V} {d : D} {v : V} (r : Rps K F ds vs) (h : Rp K F d v) : Rps K F (ds ++ [d]) (vs ++ [v]) := r.append ⟨v, [], rfl, h, rfl⟩
theorem Rps.ints : ∀ (ns : List Int), Rps K F (ns.map D.int) (ns.map V.int)
  | [] => rfl
  | _ :: ns => ⟨_, _, rfl, rfl, Rps.ints ns⟩
theorem same_upd {a : Addr} {o : HO} (n : H a = none) : Same H (upd H a o) := fun b u e => by rw [upd_ne (ne_of_none e n)]; exact e
theorem same_into {a : Addr} {o : HO} (s : Same F H) (n : H a = none) : Same F (upd H a o) := s.trans (same_upd n)
structure Ext (F H F' H' : Hp) : Prop where
  ff : Same F F'
  hh : Same H H'
  fh : Same F' H'
  nw : ∀ a, F' a ≠ none -> F a ≠ none ∨ H a = none
theorem Ext.refl (s : Same F H) : Ext F H F H := ⟨Same.refl _, Same.refl _, s, fun _ h => .inl h⟩
theorem Ext.trans {F1 H1 F2 H2 : Hp} (x : Ext F H F1 H1) (y : Ext F1 H1 F2 H2) : Ext F H F2 H2 :=
  ⟨x.ff.trans y.ff, x.hh.trans y.hh, y.fh, fun a h => (y.nw a h).elim (x.nw a) fun z => .inr (x.hh.free z)⟩
theorem Ext.new {a : Addr} {o : HO} (s : Same F H) (n : H a = none) : Ext F H F (upd H a o) := ⟨Same.refl _, same_upd n, same_into s n, fun _ h => .inl h⟩
theorem Ext.newF {a : Addr} {o : HO} (s : Same F H) (n : H a = none) : Ext F H (upd F a o) (upd H a o) := by
  refine ⟨same_upd (s.free n), same_upd n, fun b u e => ?_, fun b h => ?_⟩
  · by_cases hb : b = a
    · subst hb; rw [upd_same] at e ⊢; exact e
    · rw [upd_ne hb] at e ⊢; exact s b u e
  · by_cases hb : b = a
    · subst hb; exact .inr n
    · rw [upd_ne hb] at h; exact .inl h
theorem Ext.freeze {a : Addr} {o : HO} (x : Ext F H F' H') (n : H a = none) (n' : F' a = none) (e : H' a = some o) : Ext F H (upd F' a o) H' := by
  refine ⟨x.ff.trans (same_upd n'), x.hh, fun b u q => ?_, fun b h => ?_⟩
  · by_cases hb : b = a
    · subst hb; rw [upd_same] at q; cases q; exact e
    · rw [upd_ne hb] at q; exact x.fh b u q
  · by_cases hb : b = a
    · subst hb; exact .inr n
    · rw [upd_ne hb] at h; exact x.nw b h
def Rq (K : KW) (F H : Hp) (d : D) (v : V) : Prop := Rp K F d v ∨ ∃ a vs ds, d = .lst ds /\ v = .ref a /\ H a = some (.lst vs) /\ Rps K F ds vs
theorem Rq.mono (f : Same F F') (h : Same H H') {d : D} {v : V} (r : Rq K F H d v) : Rq K F' H' d v := by
  rcases r with r | ⟨a, vs, ds, e1, e2, e3, e4⟩
  · exact .inl (r.mono f)
  · exact .inr ⟨a, vs, ds, e1, e2, h _ _ e3, e4.mono f⟩
theorem Rq.lst (s : Same F H) {ds : List D} {v : V} (r : Rq K F H (.lst ds) v) : ∃ a vs, v = .ref a /\ H a = some (.lst vs) /\ Rps K F ds vs := by
  rcases r with ⟨a, vs, e, q, r⟩ | ⟨a, vs, ds', e1, e2, e3, e4⟩
  · exact ⟨a, vs, e, s _ _ q, r⟩
  · cases e1; exact ⟨a, vs, e2, e3, e4⟩
theorem Rq.one {d : D} {v : V} (r : Rq K F H d v) (h : ∀ ds, d ≠ .lst ds) : Rp K F d v := by
  rcases r with r | ⟨a, vs, ds, e1, _⟩
  · exact r
  · exact (h ds e1).elim
theorem Rq.int {i : Int} {v : V} (r : Rq K F H (.int i) v) : v = .int i := r.one fun _ h => by cases h
theorem Rq.bl {i : Bool} {v : V} (r : Rq K F H (.bl i) v) : v = .bl i := r.one fun _ h => by cases h
theorem Rq.str {i : Str} {v : V} (r : Rq K F H (.str i) v) : v = .str i := r.one fun _ h => by cases h
theorem Rq.non {v : V} (r : Rq K F H .non v) : v = .non := r.one fun _ h => by cases h
theorem Rq.tup (s : Same F H) {ds : List D} {v : V} (r : Rq K F H (.tup ds) v) : ∃ a vs, v = .ref a /\ H a = some (.tup vs) /\ Rps K F ds vs := by
  obtain ⟨a, vs, e, q, r⟩ := r.one fun _ h => by cases h
  exact ⟨a, vs, e, s _ _ q, r⟩
theorem Rq.scr (s : Same F H) {ns : List Int} {v : V} (r : Rq K F H (.scr ns) v) : ∃ a, v = .ref a /\ SqL K H a (ns.map V.int) := by
  obtain ⟨a, e, q⟩ := r.one fun _ h => by cases h
  exact ⟨a, e, s.seq q⟩
end
inductive OT where
  | frz (d : D) | lst (ts : List OT) | tup (ts : List OT)
mutual
def RepO (K : KW) (F H : Hp) : OT -> V -> Prop
  | .frz d, v => Rp K F d v
  | .lst ts, v => ∃ a vs, v = .ref a /\ H a = some (.lst vs) /\ RepOs K F H ts vs
  | .tup ts, v => ∃ a vs, v = .ref a /\ H a = some (.tup vs) /\ RepOs K F H ts vs
def RepOs (K : KW) (F H : Hp) : List OT -> List V -> Prop
  | [], vs => vs = []
  | t :: ts, vs => ∃ v r, vs = v :: r /\ RepO K F H t v /\ RepOs K F H ts r
end
def itemsH (H : Hp) (a : Addr) : List V := match H a with
  | some (.lst vs) => vs
  | some (.tup vs) => vs
  | _ => []
mutual
def feetO (H : Hp) : OT -> V -> List Addr
  | .frz _, _ => []
  | .lst ts, v => match v with
    | .ref a => a :: feetOs H ts (itemsH H a)
    | _ => []
  | .tup ts, v => match v with
    | .ref a => a :: feetOs H ts (itemsH H a)
    | _ => []
def feetOs (H : Hp) : List OT -> List V -> List Addr
  | [], _ => []
  | t :: ts, vs => match vs with
    | v :: r => feetO H t v ++ feetOs H ts r
    | [] => []
end
mutual
def OT.erase : OT -> D
  | .frz d => d
  | .lst ts => .lst (erases ts)
  | .tup ts => .tup (erases ts)
def erases : List OT -> List D
  | [] => []
  | t :: ts => t.erase :: erases ts
end
theorem itemsH_lst {H : Hp} {a : Addr} {vs : List V} (h : H a = some (.lst vs)) : itemsH H a = vs := by unfold itemsH; rw [h]
theorem itemsH_tup {H : Hp} {a : Addr} {vs : List V} (h : H a = some (.tup vs)) : itemsH H a = vs := by unfold itemsH; rw [h]
section
variable {K : KW} {F F' H H' : Hp}
mutual
theorem RepO.ext (f : Same F F') (h : Same H H') : ∀ {t : OT} {v : V}, RepO K F H t v -> RepO K F' H' t v /\ feetO H' t v = feetO H t v
  | .frz _, _, r => ⟨Rp.mono f r, rfl⟩
  | .lst ts, _, ⟨a, vs, e, q, r⟩ => by
    subst e
    obtain ⟨r1, r2⟩ := RepOs.ext f h r
    exact ⟨⟨a, vs, rfl, h _ _ q, r1⟩, by simp only [feetO, itemsH_lst q, itemsH_lst (h _ _ q), r2]⟩
  | .tup ts, _, ⟨a, vs, e, q, r⟩ => by
    subst e
    obtain ⟨r1, r2⟩ := RepOs.ext f h r
    exact ⟨⟨a, vs, rfl, h _ _ q, r1⟩, by simp only [feetO, itemsH_tup q, itemsH_tup (h _ _ q), r2]⟩
theorem RepOs.ext (f : Same F F') (h : Same H H') : ∀ {ts : List OT} {vs : List V}, RepOs K F H ts vs -> RepOs K F' H' ts vs /\ feetOs H' ts vs = feetOs H ts vs
  | [], _, r => ⟨r, rfl⟩
  | t :: ts, _, ⟨v, r, e, h1, h2⟩ => by
    subst e
    obtain ⟨a1, a2⟩ := RepO.ext f h h1
    obtain ⟨b1, b2⟩ := RepOs.ext f h h2
    exact ⟨⟨v, r, rfl, a1, b1⟩, by simp only [feetOs, a2, b2]⟩
end
mutual
theorem RepO.other {a : Addr} {o : HO} : ∀ {t : OT} {v : V}, RepO K F H t v -> a ∉ feetO H t v -> RepO K F (upd H a o) t v /\ feetO (upd H a o) t v = feetO H t v
  | .frz _, _, r, _ => ⟨r, rfl⟩
  | .lst ts, _, ⟨b, vs, e, q, r⟩, hn => by
    subst e
    simp only [feetO, itemsH_lst q, List.mem_cons, not_or] at hn
    obtain ⟨r1, r2⟩ := RepOs.other (o := o) r hn.2
    have q' : upd H a o b = some (.lst vs) := by rw [upd_ne (Ne.symm hn.1)]; exact q
    exact ⟨⟨b, vs, rfl, q', r1⟩, by simp only [feetO, itemsH_lst q, itemsH_lst q', r2]⟩
  | .tup ts, _, ⟨b, vs, e, q, r⟩, hn => by
    subst e
    simp only [feetO, itemsH_tup q, List.mem_cons, not_or] at hn
    obtain ⟨r1, r2⟩ := RepOs.other (o := o) r hn.2
    have q' : upd H a o b = some (.tup vs) := by rw [upd_ne (Ne.symm hn.1)]; exact q
    exact ⟨⟨b, vs, rfl, q', r1⟩, by simp only [feetO, itemsH_tup q, itemsH_tup q', r2]⟩
theorem RepOs.other {a : Addr} {o : HO} : ∀ {ts : List OT} {vs : List V}, RepOs K F H ts vs -> a ∉ feetOs H ts vs -> RepOs K F (upd H a o) ts vs /\ feetOs (upd H a o) ts vs = feetOs H ts vs
  | [], _, r, _ => ⟨r, rfl⟩
  | t :: ts, _, ⟨v, r, e, h1, h2⟩, hn => by
    subst e
    simp only [feetOs, List.mem_append, not_or] at hn
    obtain ⟨a1, a2⟩ := RepO.other (o := o) h1 hn.1
    obtain ⟨b1, b2⟩ := RepOs.other (o := o) h2 hn.2
    exact ⟨⟨v, r, rfl, a1, b1⟩, by simp only [feetOs, a2, b2]⟩
end
mutual
theorem RepO.feet {a : Addr} : ∀ {t : OT} {v : V}, RepO K F H t v -> a ∈ feetO H t v -> H a ≠ none
  | .frz _, _, _, h => by simp [feetO] at h
  | .lst ts, _, ⟨b, vs, e, q, r⟩, h => by
    subst e
    simp only [feetO, itemsH_lst q, List.mem_cons] at h
    rcases h with rfl | h
    · rw [q]; simp
    · exact RepOs.feet r h
  | .tup ts, _, ⟨b, vs, e, q, r⟩, h => by
    subst e
    simp only [feetO, itemsH_tup q, List.mem_cons] at h
    rcases h with rfl | h
    · rw [q]; simp
    · exact RepOs.feet r h
theorem RepOs.feet {a : Addr} : ∀ {ts : List OT} {vs : List V}, RepOs K F H ts vs -> a ∈ feetOs H ts vs -> H a ≠ none
  | [], _, _, h => by simp [feetOs] at h
  | t :: ts, _, ⟨v, r, e, h1, h2⟩, h => by
    subst e
    simp only [feetOs, List.mem_append] at h
    rcases h with h | h
    · exact RepO.feet h1 h
    · exact RepOs.feet h2 h
end
def addF (F H : Hp) (as : List Addr) : Hp := fun b => if b ∈ as then H b else F b
mutual
theorem RepO.fz {as : List Addr} (f : Same F (addF F H as)) : ∀ {t : OT} {v : V}, RepO K F H t v -> (∀ a ∈ feetO H t v, a ∈ as) -> Rp K (addF F H as) t.erase v
  | .frz _, _, r, _ => Rp.mono f r
  | .lst ts, _, ⟨b, vs, e, q, r⟩, h => by
    subst e
    simp only [feetO, itemsH_lst q] at h
    exact ⟨b, vs, rfl, by unfold addF; rw [if_pos (h b (by simp))]; exact q, RepOs.fz f r fun a ha => h a (by simp [ha])⟩
  | .tup ts, _, ⟨b, vs, e, q, r⟩, h => by
    subst e
    simp only [feetO, itemsH_tup q] at h
    exact ⟨b, vs, rfl, by unfold addF; rw [if_pos (h b (by simp))]; exact q, RepOs.fz f r fun a ha => h a (by simp [ha])⟩
theorem RepOs.fz {as : List Addr} (f : Same F (addF F H as)) : ∀ {ts : List OT} {vs : List V}, RepOs K F H ts vs -> (∀ a ∈ feetOs H ts vs, a ∈ as) -> Rps K (addF F H as) (erases ts) vs
  | [], _, r, _ => r
  | t :: ts, _, ⟨v, r, e, h1, h2⟩, h => by
    subst e
    simp only [feetOs] at h
    exact ⟨v, r, rfl, RepO.fz f h1 fun a ha => h a (by simp [ha]), RepOs.fz f h2 fun a ha => h a (by simp [ha])⟩
end
theorem same_addF {as : List Addr} (h : ∀ a ∈ as, F a = none) : Same F (addF F H as) := fun b u e => by
  unfold addF
  rw [if_neg fun z => by rw [h b z] at e; cases e]
  exact e
end
def Rkv (K : KW) (F : Hp) (kvs : List (Key × D)) (vs : List (Key × V)) : Prop := Paired (fun p q => p.1 = q.1 /\ Rp K F p.2 q.2) kvs vs
theorem Rkv.mono {K : KW} {F F' : Hp} (s : Same F F') {kvs : List (Key × D)} {vs : List (Key × V)} (r : Rkv K F kvs vs) : Rkv K F' kvs vs := Paired.mapP r fun _ _ h => ⟨h.1, h.2.mono s⟩
inductive En where
  | val (d : D) | acc (ds : List D) | bor (ds : List D) | oac (a dx C : Addr) (fs : List Str) (ds : List D) | tre (t : OT)
    | dct (oa : Option Addr) (kvs : List (Key × D)) | dbo (kvs : List (Key × D))
abbrev EnvD := List (Option En)
structure Bs where
  F0 : Hp
  H0 : Hp
def RepE (K : KW) (B : Bs) (F H : Hp) : En -> V -> Prop
  | .val d, v => Rp K F d v
  | .acc ds, v => ∃ a vs, v = .ref a /\ H a = some (.lst vs) /\ F a = none /\ B.H0 a = none /\ Rps K F ds vs
  | .bor ds, v => ∃ a vs, v = .ref a /\ B.H0 a = some (.lst vs) /\ Rps K F ds vs
  | .oac a dx C fs ds, v => ∃ vs, v = .ref a /\ H a = some (.ins C dx (fs.zip vs)) /\ fs.length = vs.length /\ F a = none /\ B.H0 a = none /\ Rps K F ds vs
  | .tre t, v => RepO K F H t v /\ (feetO H t v).Nodup /\ ∀ a ∈ feetO H t v, F a = none /\ B.H0 a = none
  | .dct oa kvs, v => ∃ a ob vs, v = .ref a /\ H a = some (DX K.w a ob vs) /\ F a = none /\ B.H0 a = none /\ Rkv K F kvs vs /\ ∀ b, oa = some b -> b = a
  | .dbo kvs, v => ∃ a ob vs, v = .ref a /\ B.H0 a = some (DX K.w a ob vs) /\ Rkv K F kvs vs
def En.own : En -> Bool
  | .acc _ => true
  | .dct _ _ => true
  | .oac _ _ _ _ _ => true
  | _ => false
def feetE (H : Hp) : En -> V -> List Addr
  | .acc _, v => match v with
    | .ref a => [a]
    | _ => []
  | .oac _ _ _ _ _, v => match v with
    | .ref a => [a]
    | _ => []
  | .tre t, v => feetO H t v
  | .dct _ _, v => match v with
    | .ref a => [a]
    | _ => []
  | _, _ => []
theorem feetE_own {H : Hp} {x : En} {a : Addr} (o : x.own = true) : feetE H x (.ref a) = [a] := by cases x <;> first | rfl | cases o
structure Rep (K : KW) (B : Bs) (F : Hp) (σ : St) (H : Hp) (ρ : EnvD) : Prop where
  ex : Ext B.F0 B.H0 F H
  len : σ.length = ρ.length
  ents : ∀ (i : Nat) x, ρ[i]? = some (some x) -> ∃ v, σ[i]? = some (some v) /\ RepE K B F H x v
  dj : ∀ (i j : Nat) x y v w, ρ[i]? = some (some x) -> ρ[j]? = some (some y) -> σ[i]? = some (some v) -> σ[j]? = some (some w) -> i ≠ j -> ∀ a ∈ feetE H x v, a ∉ feetE H y w
section
variable {K : KW} {B : Bs} {F F' H H' : Hp} {σ : St} {ρ : EnvD}
theorem keep_none {a : Addr} (e : Ext F H F' H') (h : F a = none) (hh : H a ≠ none) : F' a = none := by
  cases q : F' a with
  | none => rfl
  | some o => exact ((e.nw a (by rw [q]; simp)).elim (fun z => (z h).elim) fun z => (hh z).elim)
theorem RepE.ext {x : En} {v : V} (r : RepE K B F H x v) (e : Ext F H F' H') : RepE K B F' H' x v := by
  cases x with
  | val d => exact Rp.mono e.ff r
  | acc ds =>
    obtain ⟨a, vs, e1, e2, e3, e4, e5⟩ := r
    exact ⟨a, vs, e1, e.hh _ _ e2, keep_none e e3 (by rw [e2]; simp), e4, e5.mono e.ff⟩
  | bor ds =>
    obtain ⟨a, vs, e1, e2, e5⟩ := r
    exact ⟨a, vs, e1, e2, e5.mono e.ff⟩
  | oac a dx C fs ds =>
    obtain ⟨vs, e1, e2, el, e3, e4, e5⟩ := r
    exact ⟨vs, e1, e.hh _ _ e2, el, keep_none e e3 (by rw [e2]; simp), e4, e5.mono e.ff⟩
  | tre t =>
    obtain ⟨r1, r2, r3⟩ := r
    obtain ⟨s1, s2⟩ := RepO.ext e.ff e.hh r1
    refine ⟨s1, by rw [s2]; exact r2, fun a ha => ?_⟩
    rw [s2] at ha
    exact ⟨keep_none e (r3 a ha).1 (RepO.feet r1 ha), (r3 a ha).2⟩
  | dct oa kvs =>
    obtain ⟨a, ob, vs, e1, e2, e3, e4, e5, e6⟩ := r
    exact ⟨a, ob, vs, e1, e.hh _ _ e2, keep_none e e3 (by rw [e2]; simp), e4, e5.mono e.ff, e6⟩
  | dbo kvs =>
    obtain ⟨a, ob, vs, e1, e2, e5⟩ := r
    exact ⟨a, ob, vs, e1, e2, e5.mono e.ff⟩
theorem RepE.feet_ext {x : En} {v : V} (r : RepE K B F H x v) (e : Same H H') : feetE H' x v = feetE H x v := by
  cases x with
  | tre t => exact (RepO.ext (Same.refl F) e r.1).2
  | _ => rfl
theorem RepE.feet_at {x : En} {v : V} {a : Addr} (r : RepE K B F H x v) (h : a ∈ feetE H x v) : H a ≠ none /\ F a = none /\ B.H0 a = none := by
  cases x with
  | val d => cases h
  | bor ds => cases h
  | acc ds =>
    obtain ⟨b, vs, rfl, e2, e3, e4, e5⟩ := r
    simp only [feetE, List.mem_singleton] at h
    subst h
    exact ⟨by rw [e2]; simp, e3, e4⟩
  | oac b dx C fs ds =>
    obtain ⟨vs, rfl, e2, el, e3, e4, e5⟩ := r
    simp only [feetE, List.mem_singleton] at h
    subst h
    exact ⟨by rw [e2]; simp, e3, e4⟩
  | tre t => exact ⟨RepO.feet r.1 h, r.2.2 a h⟩
  | dct oa kvs =>
    obtain ⟨b, ob, vs, rfl, e2, e3, e4, e5⟩ := r
    simp only [feetE, List.mem_singleton] at h
    subst h
    exact ⟨by rw [e2]; simp, e3, e4⟩
  | dbo kvs => cases h
theorem Rep.ext (r : Rep K B F σ H ρ) (e : Ext F H F' H') : Rep K B F' σ H' ρ := by
  refine ⟨r.ex.trans e, r.len, fun i x h => let ⟨v, h1, h2⟩ := r.ents i x h; ⟨v, h1, h2.ext e⟩, fun i j x y v w e1 e2 s1 s2 hne a ha hb => ?_⟩
  obtain ⟨v', q1, p1⟩ := r.ents i x e1
  rw [s1] at q1; cases q1
  obtain ⟨w', q2, p2⟩ := r.ents j y e2
  rw [s2] at q2; cases q2
  rw [p1.feet_ext e.hh] at ha
  rw [p2.feet_ext e.hh] at hb
  exact r.dj i j x y v w e1 e2 s1 s2 hne a ha hb
theorem Rep.fh (r : Rep K B F σ H ρ) : Same F H := r.ex.fh
theorem set_slot {α : Type} {l : List α} {i j : Nat} {x y : α} (h : (l.set i x)[j]? = some y) : (j = i /\ x = y /\ i < l.length) ∨ (j ≠ i /\ l[j]? = some y) := by
  by_cases hj : j = i
  · subst hj
    have hl : j < l.length := by
      have := (List.getElem?_eq_some_iff.mp h).1
      simpa using this
    rw [List.getElem?_set_self hl] at h
    cases h
    exact .inl ⟨rfl, rfl, hl⟩
  · rw [List.getElem?_set_ne (Ne.symm hj)] at h
    exact .inr ⟨hj, h⟩
theorem Rep.seto (r : Rep K B F σ H ρ) {i : Nat} {x : En} {v : V} (h : RepE K B F H x v) (hn : ∀ (j : Nat) y w, ρ[j]? = some (some y) -> σ[j]? = some (some w) -> j ≠ i -> ∀ a ∈ feetE H x v, a ∉ feetE H y w) : Rep K B F (σ.set i (some v)) H (ρ.set i (some x)) := by
  refine ⟨r.ex, by simp [r.len], fun j y e => ?_, fun j k y z u w e1 e2 s1 s2 hne a ha hb => ?_⟩
  · rcases set_slot e with ⟨rfl, q, hl⟩ | ⟨hj, e⟩
    · cases q
      exact ⟨v, List.getElem?_set_self (by rw [r.len]; exact hl), h⟩
    · obtain ⟨w, h1, h2⟩ := r.ents j y e
      exact ⟨w, by rw [List.getElem?_set_ne (Ne.symm hj)]; exact h1, h2⟩
  · rcases set_slot e1 with ⟨rfl, q1, _⟩ | ⟨hj, f1⟩ <;> rcases set_slot e2 with ⟨rfl, q2, _⟩ | ⟨hk, f2⟩
    · exact hne rfl
    · cases q1
      rcases set_slot s1 with ⟨_, p1, _⟩ | ⟨z, _⟩
      · cases p1
        rw [List.getElem?_set_ne (Ne.symm hk)] at s2
        exact hn k z w f2 s2 hk a ha hb
      · exact (z rfl).elim
    · cases q2
      rcases set_slot s2 with ⟨_, p2, _⟩ | ⟨z, _⟩
      · cases p2
        rw [List.getElem?_set_ne (Ne.symm hj)] at s1
        exact hn j y u f1 s1 hj a hb ha
      · exact (z rfl).elim
    · rw [List.getElem?_set_ne (Ne.symm hj)] at s1
      rw [List.getElem?_set_ne (Ne.symm hk)] at s2
      exact r.dj j k y z u w f1 f2 s1 s2 hne a ha hb
theorem Rep.setv (r : Rep K B F σ H ρ) {i : Nat} {d : D} {v : V} (h : Rp K F d v) : Rep K B F (σ.set i (some v)) H (ρ.set i (some (.val d))) :=
  r.seto (x := .val d) h fun _ _ _ _ _ _ a ha => by cases ha
theorem RepE.other {x : En} {v : V} {a : Addr} {o : HO} (r : RepE K B F H x v) (hn : a ∉ feetE H x v) (h0 : B.H0 a = none) : RepE K B F (upd H a o) x v /\ feetE (upd H a o) x v = feetE H x v := by
  cases x with
  | val d => exact ⟨r, rfl⟩
  | bor ds => exact ⟨r, rfl⟩
  | acc ds =>
    obtain ⟨b, vs, rfl, q2, q3, q4, q5⟩ := r
    have hb : b ≠ a := fun z => hn (by simp [feetE, z])
    exact ⟨⟨b, vs, rfl, by rw [upd_ne hb]; exact q2, q3, q4, q5⟩, rfl⟩
  | oac b dx C fs ds =>
    obtain ⟨vs, rfl, q2, ql, q3, q4, q5⟩ := r
    have hb : b ≠ a := fun z => hn (by simp [feetE, z])
    exact ⟨⟨vs, rfl, by rw [upd_ne hb]; exact q2, ql, q3, q4, q5⟩, rfl⟩
  | tre t =>
    obtain ⟨r1, r2, r3⟩ := r
    obtain ⟨s1, s2⟩ := RepO.other (o := o) r1 hn
    exact ⟨⟨s1, by rw [s2]; exact r2, fun b hb => r3 b (by rw [s2] at hb; exact hb)⟩, s2⟩
  | dct oa kvs =>
    obtain ⟨b, ob, vs, rfl, q2, q3, q4, q5⟩ := r
    have hb : b ≠ a := fun z => hn (by simp [feetE, z])
    exact ⟨⟨b, ob, vs, rfl, by rw [upd_ne hb]; exact q2, q3, q4, q5⟩, rfl⟩
  | dbo kvs => exact ⟨r, rfl⟩
theorem Rep.writeG (r : Rep K B F σ H ρ) {i : Nat} {x y : En} {v : V} {a : Addr} {o : HO} (hi : ρ[i]? = some (some x)) (hs : σ[i]? = some (some v)) (ha : a ∈ feetE H x v) (hy : RepE K B F (upd H a o) y v) (hsub : ∀ b ∈ feetE (upd H a o) y v, b ∈ feetE H x v) :
    Rep K B F σ (upd H a o) (ρ.set i (some y)) := by
  have hl : i < ρ.length := (List.getElem?_eq_some_iff.mp hi).1
  obtain ⟨v', hv', rx⟩ := r.ents i x hi
  rw [hs] at hv'; cases hv'
  obtain ⟨_, hf, h0⟩ := rx.feet_at ha
  have oth : ∀ {j : Nat} {z : En} {w : V}, ρ[j]? = some (some z) -> σ[j]? = some (some w) -> j ≠ i -> RepE K B F (upd H a o) z w /\ feetE (upd H a o) z w = feetE H z w := fun {j z w} e s hj => by
    obtain ⟨w', hw', rz⟩ := r.ents j z e
    rw [s] at hw'; cases hw'
    exact rz.other (fun hz => r.dj i j x z v w hi e hs s (Ne.symm hj) a ha hz) h0
  refine ⟨⟨r.ex.ff, fun b u e => ?_, fun b u e => ?_, r.ex.nw⟩, by simp [r.len], fun j z e => ?_, fun j k z w u t e1 e2 s1 s2 hne b hb hc => ?_⟩
  · rw [upd_ne (ne_of_none e h0)]; exact r.ex.hh b u e
  · rw [upd_ne (ne_of_none e hf)]; exact r.ex.fh b u e
  · rcases set_slot e with ⟨rfl, q, _⟩ | ⟨hj, e⟩
    · cases q; exact ⟨v, hs, hy⟩
    · obtain ⟨w, h1, _⟩ := r.ents j z e
      exact ⟨w, h1, (oth e h1 hj).1⟩
  · rcases set_slot e1 with ⟨rfl, q1, _⟩ | ⟨hj, f1⟩ <;> rcases set_slot e2 with ⟨rfl, q2, _⟩ | ⟨hk, f2⟩
    · exact hne rfl
    · cases q1
      rw [hs] at s1; cases s1
      rw [(oth f2 s2 hk).2] at hc
      exact r.dj _ k x w v t hi f2 hs s2 hne b (hsub b hb) hc
    · cases q2
      rw [hs] at s2; cases s2
      rw [(oth f1 s1 hj).2] at hb
      exact r.dj j _ z x u v f1 hi s1 hs hne b hb (hsub b hc)
    · rw [(oth f1 s1 hj).2] at hb
      rw [(oth f2 s2 hk).2] at hc
      exact r.dj j k z w u t f1 f2 s1 s2 hne b hb hc
theorem Rep.write (r : Rep K B F σ H ρ) {i : Nat} {x y : En} {a : Addr} {o : HO} (hi : ρ[i]? = some (some x)) (ho : x.own = true) (hs : σ[i]? = some (some (.ref a))) (hf : F a = none) (h0 : B.H0 a = none) (hy : RepE K B F (upd H a o) y (.ref a)) (hyo : y.own = true) :
    Rep K B F σ (upd H a o) (ρ.set i (some y)) :=
  r.writeG hi hs (by rw [feetE_own ho]; simp) hy fun b hb => by rw [feetE_own hyo] at hb; rw [feetE_own ho]; exact hb
end
abbrev Post (α : Type) := Hp -> Hp -> Hp -> Hp -> α -> V -> Prop
def lG {α : Type} (K : KW) (B : Bs) (post : Post α) (g : EnvD -> Option α) : TE := fun σ H Q =>
  ∃ F ρ x, Rep K B F σ H ρ /\ g ρ = some x /\ ∀ v F' H', Ext F H F' H' -> post F H F' H' x v -> Q v H'
def pE (K : KW) : Post D := fun _ _ F' _ d v => Rp K F' d v
def pR (K : KW) : Post D := fun _ _ F' H' d v => Rq K F' H' d v
def pA (K : KW) : Post (List D) := fun _ H F' H' ds v => ∃ a vs, v = .ref a /\ H a = none /\ H' a = some (.lst vs) /\ F' a = none /\ Rps K F' ds vs
def DE (X : Cx) (B : Bs) (e : Expr) (g : EnvD -> Option D) : Prop := PE X e (lG X.kw B (pE X.kw) g)
def DR (X : Cx) (B : Bs) (e : Expr) (g : EnvD -> Option D) : Prop := PE X e (lG X.kw B (pR X.kw) g)
def DA (X : Cx) (B : Bs) (e : Expr) (g : EnvD -> Option (List D)) : Prop := PE X e (lG X.kw B (pA X.kw) g)
def lT (K : KW) (B : Bs) (g : EnvD -> Option Bool) : TT := fun σ H Q => ∃ F ρ b, Rep K B F σ H ρ /\ g ρ = some b /\ ∀ F' H', Ext F H F' H' -> Q b H'
def DT (X : Cx) (B : Bs) (e : Expr) (g : EnvD -> Option Bool) : Prop := PT X e (lT X.kw B g)
def DW (X : Cx) (B : Bs) (e : Expr) (g : EnvD -> Option Bool) : Prop := PW X e (lT X.kw B g)
def lAs (K : KW) (B : Bs) (post : Post D) (g : EnvD -> Option (List D)) : TA := fun σ H Q =>
  ∃ F ρ ds, Rep K B F σ H ρ /\ g ρ = some ds /\ ∀ vs F' H', Ext F H F' H' -> Paired (fun d v => post F H F' H' d v) ds vs -> Q vs H'
def DAs (X : Cx) (B : Bs) (es : List Expr) (g : EnvD -> Option (List D)) : Prop := PA X es (lAs X.kw B (pE X.kw) g)
def DRs (X : Cx) (B : Bs) (es : List Expr) (g : EnvD -> Option (List D)) : Prop := PA X es (lAs X.kw B (pR X.kw) g)
section
variable {X : Cx} {B : Bs} {e a b c : Expr} {es : List Expr} {pos : Pos}
theorem pe_imp {t t' : TE} (h : PE X e t) (k : ∀ σ H Q, t' σ H Q -> t σ H Q) : PE X e t' := fun pins s σ H Q I q => h pins s σ H Q I (k σ H Q q)
theorem pt_imp {t t' : TT} (h : PT X e t) (k : ∀ σ H Q, t' σ H Q -> t σ H Q) : PT X e t' := fun pins s σ H Q I q => h pins s σ H Q I (k σ H Q q)
theorem pw_imp {t t' : TT} (h : PW X e t) (k : ∀ σ H Q, t' σ H Q -> t σ H Q) : PW X e t' := fun wh pins s σ H Q I q => h wh pins s σ H Q I (k σ H Q q)
theorem pa_imp {t t' : TA} (h : PA X es t) (k : ∀ σ H Q, t' σ H Q -> t σ H Q) : PA X es t' := fun po pins s σ H Q I q => h po pins s σ H Q I (k σ H Q q)
theorem ps_imp {st : Stmt} {t t' : TS} (h : PS X st t) (k : ∀ E σ H, t' E σ H -> t E σ H) : PS X st t' := fun pins s σ H E I q => h pins s σ H E I (k E σ H q)
theorem pss_imp {st : List Stmt} {t t' : TS} (h : PSs X st t) (k : ∀ E σ H, t' E σ H -> t E σ H) : PSs X st t' := fun pins s σ H E I q => h pins s σ H E I (k E σ H q)
theorem pi_imp {tg : Expr} {t t' : TI} (h : PI X tg e t) (k : ∀ σ H Q, t' σ H Q -> t σ H Q) : PI X tg e t' := fun pins s σ H Q I q => h pins s σ H Q I (k σ H Q q)
theorem DE.read {g : EnvD -> Option D} (h : DE X B e g) : DR X B e g :=
  pe_imp h fun σ H Q ⟨F, ρ, x, r, hg, k⟩ => ⟨F, ρ, x, r, hg, fun v F' H' e p => k v F' H' e (.inl p)⟩
def gFz (g : EnvD -> Option (List D)) : EnvD -> Option D := fun ρ => (g ρ).map D.lst
theorem DA.frz {g : EnvD -> Option (List D)} (h : DA X B e g) : DE X B e (gFz g) :=
  pe_imp h fun σ H Q ⟨F, ρ, x, r, hg, k⟩ => by
    unfold gFz at hg
    cases q : g ρ with
    | none => rw [q] at hg; cases hg
    | some ds =>
      rw [q] at hg; cases hg
      refine ⟨F, ρ, ds, r, q, fun v F' H' e p => ?_⟩
      obtain ⟨a, vs, rfl, p1, p2, p3, p4⟩ := p
      exact k _ (upd F' a (.lst vs)) H' (e.freeze p1 p3 p2) ⟨a, vs, rfl, upd_same, p4.mono (same_upd p3)⟩
theorem DA.read {g : EnvD -> Option (List D)} (h : DA X B e g) : DR X B e (gFz g) := h.frz.read
def gv (i : Nat) : EnvD -> Option D := fun ρ => match ρ[i]? with
  | some (some (.val d)) => some d
  | _ => none
def gr (i : Nat) : EnvD -> Option D := fun ρ => match ρ[i]? with
  | some (some (.val d)) => some d
  | some (some (.acc ds)) => some (.lst ds)
  | some (some (.bor ds)) => some (.lst ds)
  | _ => none
theorem de_var (i : Nat) {x : Str} (h : PE X (.Name x pos) (tVar i)) : DE X B (.Name x pos) (gv i) :=
  pe_imp h fun σ H Q ⟨F, ρ, d, r, hg, k⟩ => by
    unfold gv at hg
    split at hg
    · rename_i d' e
      cases hg
      obtain ⟨v, h1, h2⟩ := r.ents i _ e
      exact ⟨v, h1, k v F H (.refl r.fh) h2⟩
    · cases hg
theorem dr_var (i : Nat) {x : Str} (h : PE X (.Name x pos) (tVar i)) : DR X B (.Name x pos) (gr i) :=
  pe_imp h fun σ H Q ⟨F, ρ, d, r, hg, k⟩ => by
    unfold gr at hg
    split at hg
    · rename_i d' e
      cases hg
      obtain ⟨v, h1, h2⟩ := r.ents i _ e
      exact ⟨v, h1, k v F H (.refl r.fh) (.inl h2)⟩
    · rename_i ds e
      cases hg
      obtain ⟨v, h1, a, vs, e1, e2, e3, e4, e5⟩ := r.ents i _ e
      exact ⟨v, h1, k v F H (.refl r.fh) (.inr ⟨a, vs, ds, rfl, e1, e2, e5⟩)⟩
    · rename_i ds e
      cases hg
      obtain ⟨v, h1, a, vs, e1, e2, e5⟩ := r.ents i _ e
      exact ⟨v, h1, k v F H (.refl r.fh) (.inr ⟨a, vs, ds, rfl, e1, r.ex.hh _ _ e2, e5⟩)⟩
    · cases hg
def gc (d : D) : EnvD -> Option D := fun _ => some d
theorem de_con {v : V} {d : D} (h : PE X e (tC v)) (r : ∀ F, Rp X.kw F d v) : DE X B e (gc d) :=
  pe_imp h fun σ H Q ⟨F, ρ, d', rr, hg, k⟩ => by cases hg; exact k v F H (.refl rr.fh) (r F)
theorem de_int {i : Int} {j} : DE X B (.Constant (.int i) j pos) (gc (.int i)) := de_con pe_int fun _ => rfl
theorem de_bl {i : Bool} {j} : DE X B (.Constant (.bool i) j pos) (gc (.bl i)) := de_con pe_bl fun _ => rfl
theorem de_non {j} : DE X B (.Constant .none j pos) (gc .non) := de_con pe_non fun _ => rfl
theorem de_str {x : Str} {j} : DE X B (.Constant (.str x) j pos) (gc (.str x)) := de_con pe_str fun _ => rfl
theorem de_glob {x : Str} {v : V} {u : Value} {d : D} (hg : Gl X x) (hm : X.mg x = some u) (r : RelV v u) (rd : ∀ F, Rp X.kw F d v) (hd : (x == ("__debug__" : Str)) = false := by decide) : DE X B (.Name x pos) (gc d) :=
  pe_imp (pe_glob hg hm r hd) fun σ H Q ⟨F, ρ, d', rr, hg, k⟩ => by cases hg; exact k v F H (.refl rr.fh) (rd F)
def g2 {γ : Type} (f : D -> D -> Option γ) (ga gb : EnvD -> Option D) : EnvD -> Option γ := fun ρ => (ga ρ).bind fun x => (gb ρ).bind fun y => f x y
def OkR {γ : Type} (K : KW) (r : R2) (pc : Post γ) (f : D -> D -> Option γ) : Prop :=
  ∀ F H x y dx dy d Q, Same F H -> Rq K F H dx x -> Rq K F H dy y -> f dx dy = some d -> (∀ v F' H', Ext F H F' H' -> pc F H F' H' d v -> Q v H') -> r x y H Q
def Back {γ : Type} (pc : Post γ) : Prop := ∀ F H F1 H1 F' H' d v, Ext F H F1 H1 -> pc F1 H1 F' H' d v -> pc F H F' H' d v
theorem back_E {K : KW} : Back (pE K) := fun _ _ _ _ _ _ _ _ _ h => h
theorem back_A {K : KW} : Back (pA K) := fun _ _ _ _ _ _ _ _ e ⟨a, vs, h1, h2, h⟩ => ⟨a, vs, h1, e.hh.free h2, h⟩
theorem op2 {γ : Type} {r : R2} {pc : Post γ} {f : D -> D -> Option γ} (hb : Back pc) (hr : OkR X.kw r pc f) {ga gb : EnvD -> Option D} {σ : St} {H : Hp} {Q : VK} (h : lG X.kw B pc (g2 f ga gb) σ H Q) :
    tOp r (lG X.kw B (pR X.kw) ga) (lG X.kw B (pR X.kw) gb) σ H Q := by
  obtain ⟨F, ρ, d, rr, hg, k⟩ := h
  unfold g2 at hg
  cases qa : ga ρ with
  | none => rw [qa] at hg; cases hg
  | some dx =>
    cases qb : gb ρ with
    | none => rw [qa, qb] at hg; cases hg
    | some dy =>
      rw [qa, qb] at hg
      refine ⟨F, ρ, dx, rr, qa, fun x F1 H1 e1 p1 => ⟨F1, ρ, dy, rr.ext e1, qb, fun y F2 H2 e2 p2 => ?_⟩⟩
      exact hr F2 H2 x y dx dy d Q e2.fh (p1.mono e2.ff e2.hh) p2 hg fun v F' H' e p => k v F' H' (e1.trans (e2.trans e)) (hb _ _ _ _ _ _ _ _ (e1.trans e2) p)
theorem de_op {op : Operator} {r : R2} {f : D -> D -> Option D} {ga gb : EnvD -> Option D} (ho : OpR X (binaryOp op) r) (hr : OkR X.kw r (pE X.kw) f) (ha : DR X B a ga) (hb : DR X B b gb) : DE X B (.BinOp a op b pos) (g2 f ga gb) :=
  pe_imp (pe_op ho ha hb) fun σ H Q h => op2 back_E hr h
theorem da_op {op : Operator} {r : R2} {f : D -> D -> Option (List D)} {ga gb : EnvD -> Option D} (ho : OpR X (binaryOp op) r) (hr : OkR X.kw r (pA X.kw) f) (ha : DR X B a ga) (hb : DR X B b gb) : DA X B (.BinOp a op b pos) (g2 f ga gb) :=
  pe_imp (pe_op ho ha hb) fun σ H Q h => op2 back_A hr h
theorem de_cmp {op : CmpOp} {r : R2} {f : D -> D -> Option D} {ga gb : EnvD -> Option D} (ho : OpR X (compareOp op) r) (hr : OkR X.kw r (pE X.kw) f) (ha : DR X B a ga) (hb : DR X B b gb) (hm : behindInMarks op b = false) : DE X B (.Compare a [op] [b] pos) (g2 f ga gb) :=
  pe_imp (pe_cmpR ho ha hb hm) fun σ H Q h => op2 back_E hr h
theorem de_ix {r : R2} {f : D -> D -> Option D} {ga gb : EnvD -> Option D} (ho : IxR X r) (hr : OkR X.kw r (pE X.kw) f) (ha : DR X B a ga) (hb : DR X B b gb) (hs : PlainIx b) : DE X B (.Subscript a b pos) (g2 f ga gb) :=
  pe_imp (pe_ix ho ha hb hs) fun σ H Q h => op2 back_E hr h
def fI (C : Int -> Int -> Bool) (f : Int -> Int -> D) : D -> D -> Option D
  | .int i, .int j => if C i j then some (f i j) else none
  | _, _ => none
theorem okI {K : KW} {C : Int -> Int -> Prop} {p : Int -> Int -> Bool} {f : Int -> Int -> D} {g : Int -> Int -> V} (hp : ∀ i j, p i j = true -> C i j) (hf : ∀ i j F, Rp K F (f i j) (g i j)) : OkR K (rI C g) (pE K) (fI p f) := by
  intro F H x y dx dy d Q s rx ry e k
  unfold fI at e
  split at e
  · rename_i i j
    split at e
    · rename_i hc
      cases e
      exact ⟨i, j, rx.int, ry.int, hp i j hc, k _ F H (.refl s) (hf i j F)⟩
    · cases e
  · cases e
theorem okI0 {K : KW} {f : Int -> Int -> D} {g : Int -> Int -> V} (hf : ∀ i j F, Rp K F (f i j) (g i j)) : OkR K (rI0 g) (pE K) (fI (fun _ _ => true) f) := by
  intro F H x y dx dy d Q s rx ry e k
  unfold fI at e
  split at e
  · rename_i i j
    rw [if_pos rfl] at e
    cases e
    exact ⟨i, j, rx.int, ry.int, k _ F H (.refl s) (hf i j F)⟩
  · cases e
def fSub := fI (fun _ _ => true) fun i j => .int (i - j)
def LIM : Int := 18446744073709551616
def fMul := fI (fun i j => (decide (-LIM < i) && decide (i < LIM)) || (decide (-LIM < j) && decide (j < LIM))) fun i j => .int (i * j)
def fDiv := fI (fun _ j => decide (0 < j) && decide (j < 1073741824)) fun i j => .int (i / j)
def fMod := fI (fun _ j => decide (0 < j)) fun i j => .int (i % j)
def fShr := fI (fun _ j => decide (0 <= j)) fun i j => .int (i / 2 ^ j.toNat)
def fAnd := fI (fun _ _ => true) fun i j => .int (Builtin.bitAnd i j)
def fPow := fI (fun i j => decide (0 <= j) && decide (j <= 1000000) && decide (i.natAbs < 18446744073709551616)) fun i j => .int (i ^ j.toNat)
variable {ga gb : EnvD -> Option D}
theorem de_sub (ha : DR X B a ga) (hb : DR X B b gb) : DE X B (.BinOp a .Sub b pos) (g2 fSub ga gb) := de_op op_sub (okI0 fun _ _ _ => rfl) ha hb
theorem de_mul (ha : DR X B a ga) (hb : DR X B b gb) : DE X B (.BinOp a .Mult b pos) (g2 fMul ga gb) := de_op op_mul (okI (fun i j h => by
  simp only [Bool.or_eq_true, Bool.and_eq_true, decide_eq_true_eq] at h
  unfold LIM at h
  rcases h with ⟨h1, h2⟩ | ⟨h1, h2⟩
  · exact .inl ⟨by omega, by omega⟩
  · exact .inr ⟨by omega, by omega⟩) fun _ _ _ => rfl) ha hb
theorem de_div (ha : DR X B a ga) (hb : DR X B b gb) : DE X B (.BinOp a .FloorDiv b pos) (g2 fDiv ga gb) := de_op op_fdiv (okI (fun i j h => by
  simp only [Bool.and_eq_true, decide_eq_true_eq] at h
  exact h) fun _ _ _ => rfl) ha hb
theorem de_mod (ha : DR X B a ga) (hb : DR X B b gb) : DE X B (.BinOp a .Mod b pos) (g2 fMod ga gb) := de_op op_mod (okI (fun i j h => by
  simp only [decide_eq_true_eq] at h
  exact h) fun _ _ _ => rfl) ha hb
theorem de_shr (ha : DR X B a ga) (hb : DR X B b gb) : DE X B (.BinOp a .RShift b pos) (g2 fShr ga gb) := de_op op_shr (okI (fun i j h => by
  simp only [decide_eq_true_eq] at h
  exact h) fun _ _ _ => rfl) ha hb
theorem de_and' (ha : DR X B a ga) (hb : DR X B b gb) : DE X B (.BinOp a .BitAnd b pos) (g2 fAnd ga gb) := de_op op_and (okI0 fun _ _ _ => rfl) ha hb
theorem de_pow (ha : DR X B a ga) (hb : DR X B b gb) : DE X B (.BinOp a .Pow b pos) (g2 fPow ga gb) := de_op op_pow (okI (fun i j h => by
  simp only [Bool.and_eq_true, decide_eq_true_eq] at h
  exact ⟨h.1.1, h.1.2, by have := h.2; omega⟩) fun _ _ _ => rfl) ha hb
def fLt := fI (fun _ _ => true) fun i j => .bl (decide (i < j))
def fLe := fI (fun _ _ => true) fun i j => .bl (decide (i <= j))
def fGt := fI (fun _ _ => true) fun i j => .bl (decide (j < i))
theorem ok_lt {K : KW} : OkR K (rI0 fun i j => .bl (decide (i < j))) (pE K) fLt := okI0 fun _ _ _ => rfl
theorem ok_le {K : KW} : OkR K (rI0 fun i j => .bl (decide (i <= j))) (pE K) fLe := okI0 fun _ _ _ => rfl
theorem ok_gt {K : KW} : OkR K (rI0 fun i j => .bl (decide (j < i))) (pE K) fGt := okI0 fun _ _ _ => rfl
def TOP : Nat := 1000000
theorem top_line {n : Nat} (h : n <= TOP) : n <= sizeLine := Nat.le_trans h (by decide)
theorem top_line' {n : Nat} (h : n <= TOP) : n < sizeLine := Nat.lt_of_le_of_lt h (by decide)
def fIx : D -> D -> Option D
  | .lst xs, .int i => atI xs i
  | .tup xs, .int i => atI xs i
  | .scr ns, .int i => (atI ns i).map D.int
  | _, _ => none
theorem atI_rp {K : KW} {F : Hp} {ds : List D} {vs : List V} {i : Int} {d : D} (r : Rps K F ds vs) (h : atI ds i = some d) : ∃ v, atI vs i = some v /\ Rp K F d v := by
  unfold atI at h ⊢
  rw [<- r.length]
  cases q : ixN ds.length i with
  | none => rw [q] at h; cases h
  | some j => rw [q] at h; exact r.get h
theorem ok_ix {K : KW} : OkR K (rIx K) (pE K) fIx := by
  intro F H x y dx dy d Q s rx ry e k
  unfold fIx at e
  split at e
  · rename_i xs i
    obtain ⟨p, vs, rfl, h1, h2⟩ := rx.lst s
    obtain ⟨v, h3, h4⟩ := atI_rp h2 e
    exact .inl ⟨p, vs, i, v, rfl, ry.int, .of h1, h3, k _ F H (.refl s) h4⟩
  · rename_i xs i
    obtain ⟨p, vs, rfl, h1, h2⟩ := rx.tup s
    obtain ⟨v, h3, h4⟩ := atI_rp h2 e
    exact .inr (.inl ⟨p, vs, i, v, rfl, ry.int, .of h1, h3, k _ F H (.refl s) h4⟩)
  · rename_i ns i
    obtain ⟨p, rfl, h1⟩ := rx.scr s
    cases q : atI ns i with
    | none => rw [q] at e; cases e
    | some n =>
      rw [q] at e
      cases e
      refine .inl ⟨p, _, i, .int n, rfl, ry.int, h1, ?_, k _ F H (.refl s) rfl⟩
      unfold atI at q ⊢
      rw [List.length_map]
      cases q' : ixN ns.length i with
      | none => rw [q'] at q; cases q
      | some j =>
        rw [q'] at q
        have q : ns[j]? = some n := q
        show (ns.map V.int)[j]? = some (.int n)
        rw [List.getElem?_map, q]; rfl
  · cases e
end
mutual
def toP : D -> PyData
  | .non => .none
  | .bl b => .bool b
  | .int i => .int i
  | .str x => .str x
  | .lst ds => .list (toPs ds)
  | .tup ds => .tuple (toPs ds)
  | .scr ns => .list (ns.map PyData.int)
  | .obj _ _ _ => .dict []
  | .emp => .dict []
def toPs : List D -> List PyData
  | [] => []
  | d :: ds => toP d :: toPs ds
end
section
variable {X : Cx} {pins : List (Addr × Obj)} {σ : St} {F H : Hp} {s : Shared}
theorem readsInts {h : Heap} : ∀ (ns : List Int) {us : List Value}, Vals (ns.map V.int) us -> ∃ as, ReadsAll h us (ns.map PyData.int) as
  | [], _, .nil => ⟨_, .nil⟩
  | n :: ns, _, .cons r t => by
    obtain ⟨t', rfl⟩ := r
    obtain ⟨as, q⟩ := readsInts ns t
    exact ⟨_, .cons (.int n t') q⟩
mutual
theorem Rp.reads (I : Inv X pins σ H s) (fh : Same F H) : ∀ (d : D) {v : V} {u : Value}, (toP d).canLay0 = true -> Rp X.kw F d v -> RelV v u -> ∃ as, Reads s.heap u (toP d) as
  | .non, _, _, _, h, r => by subst h; cases r; exact ⟨_, .none⟩
  | .bl b, _, _, _, h, r => by subst h; cases r; exact ⟨_, .bool b⟩
  | .int i, _, _, _, h, r => by subst h; obtain ⟨t, rfl⟩ := r; exact ⟨_, .int i t⟩
  | .str x, _, _, _, h, r => by subst h; obtain ⟨t, rfl⟩ := r; exact ⟨_, .str x t⟩
  | .lst ds, _, _, c, ⟨a, vs, e, q, h⟩, r => by
    subst e; cases r
    obtain ⟨z, its, n, rv, e⟩ := (show ObjOk X.prog X.w H s.heap a (.lst vs) from I.hok a _ (fh _ _ q))
    obtain ⟨as, t⟩ := Rps.reads I fh ds (show PyData.canLayAll0 (toPs ds) = true from c) h rv
    exact ⟨_, .list e rfl rfl (by simpa using t)⟩
  | .tup ds, _, _, c, ⟨a, vs, e, q, h⟩, r => by
    subst e; cases r
    obtain ⟨z, its, rv, o, e, hc, n, hd⟩ := (show ObjOk X.prog X.w H s.heap a (.tup vs) from I.hok a _ (fh _ _ q))
    obtain ⟨as, t⟩ := Rps.reads I fh ds (show PyData.canLayAll0 (toPs ds) = true from c) h rv
    exact ⟨_, .tuple e hc hd (by simpa using t)⟩
  | .scr ns, _, _, c, ⟨a, e, q⟩, r => by
    subst e; cases r
    obtain ⟨its, rv, ⟨o, n, e, hc, _, hd⟩, _⟩ := I.list (fh.seq q)
    obtain ⟨as, t⟩ := readsInts (h := s.heap) ns rv
    exact ⟨_, .list e hc hd (by simpa using t)⟩
  | .obj _ _ _, _, _, c, _, _ => by cases c
  | .emp, _, _, c, _, _ => by cases c
theorem Rps.reads (I : Inv X pins σ H s) (fh : Same F H) : ∀ (ds : List D) {vs : List V} {us : List Value}, PyData.canLayAll0 (toPs ds) = true -> Rps X.kw F ds vs -> Vals vs us -> ∃ as, ReadsAll s.heap us (toPs ds) as
  | [], _, _, _, h, r => by subst h; cases r; exact ⟨_, .nil⟩
  | d :: ds, _, _, c, ⟨v, w, e, h, t⟩, r => by
    subst e
    cases r with
    | cons r rr =>
      have c' : ((toP d).canLay0 && PyData.canLayAll0 (toPs ds)) = true := c
      obtain ⟨c1, c2⟩ := Bool.and_eq_true_iff.mp c'
      obtain ⟨as, q⟩ := Rp.reads I fh d c1 h r
      obtain ⟨bs, p⟩ := Rps.reads I fh ds c2 t rr
      exact ⟨_, .cons q p⟩
end
theorem Rq.reads (I : Inv X pins σ H s) (fh : Same F H) {d : D} {v : V} {u : Value} (c : (toP d).canLay0 = true) (h : Rq X.kw F H d v) (r : RelV v u) : ∃ as, Reads s.heap u (toP d) as := by
  rcases h with h | ⟨a, vs, ds, rfl, rfl, e, h⟩
  · exact h.reads I fh d c r
  · cases r
    obtain ⟨z, its, n, rv, e⟩ := (show ObjOk X.prog X.w H s.heap a (.lst vs) from I.hok a _ e)
    obtain ⟨as, t⟩ := Rps.reads I fh ds (show PyData.canLayAll0 (toPs ds) = true from c) h rv
    exact ⟨_, .list e rfl rfl (by simpa using t)⟩
end
def eqOk (d : D) : Bool := SeqAt.shaped (toP d)
def eqD (d d' : D) : Bool := PyData.eqv (toP d) (toP d')
def rEqD (K : KW) (neg : Bool) : R2 := fun x y H Q => ∃ F d d', Same F H /\ Rq K F H d x /\ Rq K F H d' y /\ eqOk d = true /\ eqOk d' = true /\ Q (.bl (if neg then !eqD d d' else eqD d d')) H
section
variable {X : Cx} {B : Bs} {e a b c : Expr} {es : List Expr} {pos : Pos} {ga gb : EnvD -> Option D}
theorem op_eqD (hu : X.A.units + 64 < cLine) : OpR X (compareOp .Eq) (rEqD X.kw false) := by
  intro pins s σ H x y v u Q I rx ry ⟨F, d, d', fh, h1, h2, o1, o2, q⟩
  obtain ⟨as, ra⟩ := h1.reads I fh (SeqAt.canLay_of_shaped o1) rx
  obtain ⟨bs, rb⟩ := h2.reads I fh (SeqAt.canLay_of_shaped o2) ry
  exact SeqAt.compareEq_shaped ra rb o1 o2 hu ⟨.bl (eqD d d'), H, I, rfl, q⟩
theorem op_neD (hu : X.A.units + 64 < cLine) : OpR X (compareOp .NotEq) (rEqD X.kw true) := by
  intro pins s σ H x y v u Q I rx ry ⟨F, d, d', fh, h1, h2, o1, o2, q⟩
  obtain ⟨as, ra⟩ := h1.reads I fh (SeqAt.canLay_of_shaped o1) rx
  obtain ⟨bs, rb⟩ := h2.reads I fh (SeqAt.canLay_of_shaped o2) ry
  exact SeqAt.compareNe_shaped ra rb o1 o2 hu ⟨.bl (!eqD d d'), H, I, rfl, q⟩
def fEq (neg : Bool) : D -> D -> Option D := fun x y => if eqOk x && eqOk y then some (.bl (if neg then !eqD x y else eqD x y)) else none
theorem ok_eq {K : KW} {neg : Bool} : OkR K (rEqD K neg) (pE K) (fEq neg) := by
  intro F H x y dx dy d Q s rx ry e k
  unfold fEq at e
  split at e
  · rename_i hc
    cases e
    obtain ⟨h1, h2⟩ := Bool.and_eq_true_iff.mp hc
    exact ⟨F, dx, dy, s, rx, ry, h1, h2, k _ F H (.refl s) rfl⟩
  · cases e
def isNon : D -> Bool
  | .non => true
  | _ => false
theorem rq_non {K : KW} {F H : Hp} {d : D} {v : V} (r : Rq K F H d v) : decide (v = .non) = isNon d := by
  rcases r with r | ⟨a, vs, ds, rfl, rfl, _⟩
  · cases d with
    | non => cases r; rfl
    | bl b => cases r; rfl
    | int b => cases r; rfl
    | str b => cases r; rfl
    | lst ds => obtain ⟨a, vs, rfl, _⟩ := r; rfl
    | tup ds => obtain ⟨a, vs, rfl, _⟩ := r; rfl
    | scr ds => obtain ⟨a, rfl, _⟩ := r; rfl
    | obj C f ds => obtain ⟨a, dx, vs, rfl, _⟩ := r; rfl
    | emp => obtain ⟨a, rfl, _⟩ := r; rfl
  · rfl
def fIs (neg : Bool) : D -> D -> Option D
  | d, .non => some (.bl (if neg then !isNon d else isNon d))
  | _, _ => none
theorem ok_is {K : KW} : OkR K (fun x y H Q => y = .non /\ Q (.bl (decide (x = .non))) H) (pE K) (fIs false) := by
  intro F H x y dx dy d Q s rx ry e k
  unfold fIs at e
  split at e
  · cases e
    refine ⟨ry.non, ?_⟩
    rw [rq_non rx]
    exact k _ F H (.refl s) rfl
  · cases e
def asB : D -> Option Bool
  | .bl b => some b
  | _ => none
def truD : D -> Option Bool
  | .non => some false
  | .bl b => some b
  | .int i => some (i != 0)
  | .str x => if x.length <= TOP then some ((x.length : Int) != 0) else none
  | .lst ds => some (!ds.isEmpty)
  | .tup ds => some (!ds.isEmpty)
  | .scr ns => some (!ns.isEmpty)
  | .obj _ _ _ => none
  | .emp => none
theorem isEmpty_rps {K : KW} {F : Hp} {ds : List D} {vs : List V} (r : Rps K F ds vs) : ds.isEmpty = vs.isEmpty := by
  have := r.length
  cases ds <;> cases vs <;> simp_all
theorem tru_rq {K : KW} {F H : Hp} (s : Same F H) {d : D} {v : V} {b : Bool} (r : Rq K F H d v) (h : truD d = some b) : TruV K v H b := by
  cases d with
  | non => cases r.non; cases h; rfl
  | bl x => cases r.bl; cases h; rfl
  | int x => cases r.int; cases h; rfl
  | str x =>
    cases r.str
    have h : (if x.length <= TOP then some ((x.length : Int) != 0) else none) = some b := h
    split at h
    · rename_i hc; cases h; exact ⟨top_line hc, rfl⟩
    · cases h
  | lst ds => obtain ⟨a, vs, rfl, q, t⟩ := r.lst s; cases h; exact .inl ⟨vs, .of q, by rw [isEmpty_rps t]⟩
  | tup ds => obtain ⟨a, vs, rfl, q, t⟩ := r.tup s; cases h; exact .inr (.inl ⟨vs, .of q, by rw [isEmpty_rps t]⟩)
  | scr ns => obtain ⟨a, rfl, q⟩ := r.scr s; cases h; exact .inl ⟨_, q, by simp⟩
  | obj C f ds => cases h
  | emp => cases h
def gt (g : EnvD -> Option D) : EnvD -> Option Bool := fun ρ => (g ρ).bind truD
def gb' (g : EnvD -> Option D) : EnvD -> Option Bool := fun ρ => (g ρ).bind asB
theorem dt_truth {g : EnvD -> Option D} (ha : DR X B a g) (he : ∀ whole, isTrue a X.env whole = (do let v <- whole; standAt a.pos; holding [v] (truthy v))) : DT X B a (gt g) :=
  pt_imp (pt_truth ha he) fun σ H Q ⟨F, ρ, b, r, hg, k⟩ => by
    unfold gt at hg
    cases q : g ρ with
    | none => rw [q] at hg; cases hg
    | some d =>
      rw [q] at hg
      exact ⟨F, ρ, d, r, q, fun v F' H' e p => ⟨b, tru_rq e.fh p hg, k F' H' e⟩⟩
theorem dt_cmp {op : CmpOp} {r : R2} {f : D -> D -> Option D} (ho : OpR X (compareOp op) r) (hr : OkR X.kw r (pE X.kw) f) (ha : DR X B a ga) (hb : DR X B b gb) (hm : behindInMarks op b = false) : DT X B (.Compare a [op] [b] pos) (gb' (g2 f ga gb)) :=
  pt_imp (pt_cmpR ho ha hb hm) fun σ H Q ⟨F, ρ, c, rr, hg, k⟩ => by
    unfold gb' at hg
    cases q : g2 f ga gb ρ with
    | none => rw [q] at hg; cases hg
    | some d =>
      rw [q] at hg
      refine op2 back_E hr ⟨F, ρ, d, rr, q, fun v F' H' e p => ?_⟩
      cases d with
      | bl y => cases hg; exact ⟨c, p, k F' H' e⟩
      | _ => cases hg
def gAnd (ga gb : EnvD -> Option Bool) : EnvD -> Option Bool := fun ρ => (ga ρ).bind fun x => if x then gb ρ else some false
def gOr (ga gb : EnvD -> Option Bool) : EnvD -> Option Bool := fun ρ => (ga ρ).bind fun x => if x then some true else gb ρ
def gNot (ga : EnvD -> Option Bool) : EnvD -> Option Bool := fun ρ => (ga ρ).map fun x => !x
variable {ta tb : EnvD -> Option Bool} {rest : List Expr}
theorem dw_and1 (ha : DT X B a ta) : DW X B (.BoolOp .And [a] pos) ta := pw_and1 ha
theorem dw_or1 (ha : DT X B a ta) : DW X B (.BoolOp .Or [a] pos) ta := pw_or1 ha
theorem dw_and (ha : DT X B a ta) (hb : DW X B (.BoolOp .And (b :: rest) pos) tb) : DW X B (.BoolOp .And (a :: b :: rest) pos) (gAnd ta tb) :=
  pw_imp (pw_and ha hb) fun σ H Q ⟨F, ρ, c, r, hg, k⟩ => by
    unfold gAnd at hg
    cases q : ta ρ with
    | none => rw [q] at hg; cases hg
    | some x =>
      rw [q] at hg
      refine ⟨F, ρ, x, r, q, fun F1 H1 e1 => ?_⟩
      cases x with
      | true => exact iteT ⟨F1, ρ, c, r.ext e1, hg, fun F2 H2 e2 => k F2 H2 (e1.trans e2)⟩
      | false => cases hg; exact iteF (k F1 H1 e1)
theorem dw_or (ha : DT X B a ta) (hb : DW X B (.BoolOp .Or (b :: rest) pos) tb) : DW X B (.BoolOp .Or (a :: b :: rest) pos) (gOr ta tb) :=
  pw_imp (pw_or ha hb) fun σ H Q ⟨F, ρ, c, r, hg, k⟩ => by
    unfold gOr at hg
    cases q : ta ρ with
    | none => rw [q] at hg; cases hg
    | some x =>
      rw [q] at hg
      refine ⟨F, ρ, x, r, q, fun F1 H1 e1 => ?_⟩
      cases x with
      | true => cases hg; exact iteT (k F1 H1 e1)
      | false => exact iteF ⟨F1, ρ, c, r.ext e1, hg, fun F2 H2 e2 => k F2 H2 (e1.trans e2)⟩
theorem dt_w (h : DW X B a ta) : DT X B a ta := PW.pt h
theorem dt_not (ha : DT X B a ta) : DT X B (.UnaryOp .Not a pos) (gNot ta) :=
  pt_imp (pt_not ha) fun σ H Q ⟨F, ρ, c, r, hg, k⟩ => by
    unfold gNot at hg
    cases q : ta ρ with
    | none => rw [q] at hg; cases hg
    | some x => rw [q] at hg; cases hg; exact ⟨F, ρ, x, r, q, fun F1 H1 e1 => k F1 H1 e1⟩
def gAndV (ga gb : EnvD -> Option D) : EnvD -> Option D := fun ρ => ((ga ρ).bind asB).bind fun x => if x then gb ρ else some (.bl false)
def gOrV (ga gb : EnvD -> Option D) : EnvD -> Option D := fun ρ => ((ga ρ).bind asB).bind fun x => if x then some (.bl true) else gb ρ
theorem asB_some {d : D} {b : Bool} (h : asB d = some b) : d = .bl b := by cases d <;> cases h; rfl
theorem bindB {g : EnvD -> Option D} {ρ : EnvD} {α : Type} {f : Bool -> Option α} {y : α} (h : ((g ρ).bind asB).bind f = some y) : ∃ b, g ρ = some (.bl b) /\ f b = some y := by
  cases q : g ρ with
  | none => rw [q] at h; cases h
  | some d =>
    rw [q] at h
    cases q2 : asB d with
    | none => rw [show (some d).bind asB = asB d from rfl, q2] at h; cases h
    | some b => rw [show (some d).bind asB = asB d from rfl, q2] at h; exact ⟨b, by rw [asB_some q2], h⟩
theorem de_one {op} (h : DE X B a ga) : DE X B (.BoolOp op [a] pos) ga := pe_one h
theorem de_andv (ha : DE X B a ga) (hb : DE X B (.BoolOp .And (b :: rest) pos) gb) : DE X B (.BoolOp .And (a :: b :: rest) pos) (gAndV ga gb) :=
  pe_imp (pe_and ha hb) fun σ H Q ⟨F, ρ, d, r, hg, k⟩ => by
    obtain ⟨x, q, hg⟩ := bindB hg
    refine ⟨F, ρ, _, r, q, fun v F1 H1 e1 p1 => ⟨x, p1, ?_⟩⟩
    cases x with
    | true => exact iteT ⟨F1, ρ, d, r.ext e1, hg, fun v F2 H2 e2 p2 => k v F2 H2 (e1.trans e2) p2⟩
    | false => cases hg; exact iteF (k _ F1 H1 e1 rfl)
theorem de_orv (ha : DE X B a ga) (hb : DE X B (.BoolOp .Or (b :: rest) pos) gb) : DE X B (.BoolOp .Or (a :: b :: rest) pos) (gOrV ga gb) :=
  pe_imp (pe_or ha hb) fun σ H Q ⟨F, ρ, d, r, hg, k⟩ => by
    obtain ⟨x, q, hg⟩ := bindB hg
    refine ⟨F, ρ, _, r, q, fun v F1 H1 e1 p1 => ⟨x, p1, ?_⟩⟩
    cases x with
    | true => cases hg; exact iteT (k _ F1 H1 e1 rfl)
    | false => exact iteF ⟨F1, ρ, d, r.ext e1, hg, fun v F2 H2 e2 p2 => k v F2 H2 (e1.trans e2) p2⟩
end
section
variable {X : Cx} {B : Bs} {e a b c : Expr} {es : List Expr} {pos : Pos} {ga gb gc' : EnvD -> Option D}
def g3 (f f' : D -> D -> Option D) (ga gb gc : EnvD -> Option D) : EnvD -> Option D := fun ρ =>
  (ga ρ).bind fun x => (gb ρ).bind fun y => ((f x y).bind asB).bind fun k => if k then (gc ρ).bind fun z => f' y z else some (.bl false)
theorem chain_ok {r r' : R2} {f f' : D -> D -> Option D} (hr : OkR X.kw r (pE X.kw) f) (hr' : OkR X.kw r' (pE X.kw) f') {σ : St} {H : Hp} {Q : VK} (h : lG X.kw B (pE X.kw) (g3 f f' ga gb gc') σ H Q) :
    tChain r r' (lG X.kw B (pR X.kw) ga) (lG X.kw B (pR X.kw) gb) (lG X.kw B (pR X.kw) gc') σ H Q := by
  obtain ⟨F, ρ, d, rr, hg, k⟩ := h
  unfold g3 at hg
  cases qa : ga ρ with
  | none => rw [qa] at hg; cases hg
  | some dx =>
    cases qb : gb ρ with
    | none => rw [qa, qb] at hg; cases hg
    | some dy =>
      rw [qa, qb] at hg
      have hg : ((f dx dy).bind asB).bind (fun k => if k then (gc' ρ).bind fun z => f' dy z else some (.bl false)) = some d := hg
      cases qf : f dx dy with
      | none => rw [qf] at hg; cases hg
      | some z =>
        rw [qf] at hg
        cases qz : asB z with
        | none => rw [show (some z).bind asB = asB z from rfl, qz] at hg; cases hg
        | some kk =>
          rw [show (some z).bind asB = asB z from rfl, qz] at hg
          rw [asB_some qz] at qf
          refine ⟨F, ρ, dx, rr, qa, fun x F1 H1 e1 p1 => ⟨F1, ρ, dy, rr.ext e1, qb, fun y F2 H2 e2 p2 => ?_⟩⟩
          refine hr F2 H2 x y dx dy _ _ e2.fh (p1.mono e2.ff e2.hh) p2 qf fun v F3 H3 e3 p3 => ⟨kk, p3, ?_⟩
          have hg : (if kk = true then (gc' ρ).bind fun z => f' dy z else some (.bl false)) = some d := hg
          cases kk with
          | false => rw [if_neg (by decide)] at hg; cases hg; exact iteF (k _ F3 H3 (e1.trans (e2.trans e3)) rfl)
          | true =>
            rw [if_pos rfl] at hg
            refine iteT ?_
            cases qc : gc' ρ with
            | none => rw [qc] at hg; cases hg
            | some dz =>
              rw [qc] at hg
              refine ⟨F3, ρ, dz, rr.ext (e1.trans (e2.trans e3)), qc, fun w F4 H4 e4 p4 => ?_⟩
              exact hr' F4 H4 y w dy dz d Q e4.fh ((p2.mono e3.ff e3.hh).mono e4.ff e4.hh) p4 hg fun v F5 H5 e5 p5 => k v F5 H5 (e1.trans (e2.trans (e3.trans (e4.trans e5)))) p5
theorem dt_chain {op op' : CmpOp} {r r' : R2} {f f' : D -> D -> Option D} (ho : OpR X (compareOp op) r) (ho' : OpR X (compareOp op') r') (hr : OkR X.kw r (pE X.kw) f) (hr' : OkR X.kw r' (pE X.kw) f') (ha : DR X B a ga) (hb : DR X B b gb) (hc : DR X B c gc')
    (hm : lastMarks [op, op'] [b, c] = false := by with_unfolding_all rfl) : DT X B (.Compare a [op, op'] [b, c] pos) (gb' (g3 f f' ga gb gc')) :=
  pt_imp (pt_chain ho ho' ha hb hc hm) fun σ H Q ⟨F, ρ, c, rr, hg, k⟩ => by
    unfold gb' at hg
    cases q : g3 f f' ga gb gc' ρ with
    | none => rw [q] at hg; cases hg
    | some d =>
      rw [q] at hg
      rw [asB_some (show asB d = some c from hg)] at q
      exact chain_ok hr hr' ⟨F, ρ, _, rr, q, fun v F' H' e p => ⟨c, p, k F' H' e⟩⟩
def gNil : EnvD -> Option (List D) := fun _ => some []
def gCons' (g : EnvD -> Option D) (gs : EnvD -> Option (List D)) : EnvD -> Option (List D) := fun ρ => (g ρ).bind fun d => (gs ρ).bind fun ds => some (d :: ds)
variable {g : EnvD -> Option D} {gs : EnvD -> Option (List D)}
theorem das_nil : DAs X B [] gNil := pa_imp pa_nil fun σ H Q ⟨F, ρ, ds, r, hg, k⟩ => by cases hg; exact k [] F H (.refl r.fh) .nil
theorem drs_nil : DRs X B [] gNil := pa_imp pa_nil fun σ H Q ⟨F, ρ, ds, r, hg, k⟩ => by cases hg; exact k [] F H (.refl r.fh) .nil
theorem bind2 {α β γ : Type} {o : Option α} {p : Option β} {f : α -> β -> Option γ} {z : γ} (h : (o.bind fun x => p.bind fun y => f x y) = some z) : ∃ x y, o = some x /\ p = some y /\ f x y = some z := by
  cases o with
  | none => cases h
  | some x =>
    cases p with
    | none => cases h
    | some y => exact ⟨x, y, rfl, rfl, h⟩
theorem das_cons (ha : DE X B e g) (hr : DAs X B es gs) (hs : starEach (e :: es) X.env = (false, eval e X.env) :: starEach es X.env := by rfl) : DAs X B (e :: es) (gCons' g gs) :=
  pa_imp (pa_cons ha hr hs) fun σ H Q ⟨F, ρ, ds, r, hg, k⟩ => by
    obtain ⟨d, dr, q1, q2, q3⟩ := bind2 hg
    cases q3
    exact ⟨F, ρ, d, r, q1, fun v F1 H1 e1 p1 => ⟨F1, ρ, dr, r.ext e1, q2, fun vs F2 H2 e2 p2 => k _ F2 H2 (e1.trans e2) (.cons (Rp.mono e2.ff p1) p2)⟩⟩
theorem drs_cons (ha : DR X B e g) (hr : DRs X B es gs) (hs : starEach (e :: es) X.env = (false, eval e X.env) :: starEach es X.env := by rfl) : DRs X B (e :: es) (gCons' g gs) :=
  pa_imp (pa_cons ha hr hs) fun σ H Q ⟨F, ρ, ds, r, hg, k⟩ => by
    obtain ⟨d, dr, q1, q2, q3⟩ := bind2 hg
    cases q3
    exact ⟨F, ρ, d, r, q1, fun v F1 H1 e1 p1 => ⟨F1, ρ, dr, r.ext e1, q2, fun vs F2 H2 e2 p2 => k _ F2 H2 (e1.trans e2) (.cons (p1.mono e2.ff e2.hh) p2)⟩⟩
theorem rps_of {K : KW} {F : Hp} : ∀ {ds : List D} {vs : List V}, Paired (fun d v => Rp K F d v) ds vs -> Rps K F ds vs
  | _, _, .nil => rfl
  | _, _, .cons r t => ⟨_, _, rfl, r, rps_of t⟩
def gTup' (gs : EnvD -> Option (List D)) : EnvD -> Option D := fun ρ => (gs ρ).bind fun ds => if ds.length <= TOP then some (.tup ds) else none
def gLst (gs : EnvD -> Option (List D)) : EnvD -> Option (List D) := fun ρ => (gs ρ).bind fun ds => if ds.length <= TOP then some ds else none
theorem de_tup {x1} (h : DAs X B es gs) : DE X B (.Tuple es x1 pos) (gTup' gs) :=
  pe_imp (pe_tup h) fun σ H Q ⟨F, ρ, d, r, hg, k⟩ => by
    unfold gTup' at hg
    cases q : gs ρ with
    | none => rw [q] at hg; cases hg
    | some ds =>
      rw [q] at hg
      have hg : (if ds.length <= TOP then some (D.tup ds) else none) = some d := hg
      split at hg
      · rename_i hc
        cases hg
        refine ⟨F, ρ, ds, r, q, fun vs F1 H1 e1 p1 => ⟨top_line (by rw [<- (rps_of p1).length]; exact hc), fun p hp => ?_⟩⟩
        exact k _ (upd F1 p (.tup vs)) _ (e1.trans (.newF e1.fh hp)) ⟨p, vs, rfl, upd_same, (rps_of p1).mono (same_upd (e1.fh.free hp))⟩
      · cases hg
theorem da_lst (h : DAs X B es gs) : DA X B (.List es pos) (gLst gs) :=
  pe_imp (pe_lst h) fun σ H Q ⟨F, ρ, d, r, hg, k⟩ => by
    unfold gLst at hg
    cases q : gs ρ with
    | none => rw [q] at hg; cases hg
    | some ds =>
      rw [q] at hg
      have hg : (if ds.length <= TOP then some ds else none) = some d := hg
      split at hg
      · rename_i hc
        cases hg
        refine ⟨F, ρ, _, r, q, fun vs F1 H1 e1 p1 => ⟨top_line (by rw [<- (rps_of p1).length]; exact hc), fun p hp => ?_⟩⟩
        exact k _ F1 _ (e1.trans (.new e1.fh hp)) ⟨p, vs, rfl, e1.hh.free hp, upd_same, e1.fh.free hp, rps_of p1⟩
      · cases hg
def lO (K : KW) (B : Bs) (g : EnvD -> Option (Option Int)) : TO := fun σ H Q => ∃ F ρ i, Rep K B F σ H ρ /\ g ρ = some i /\ ∀ F' H', Ext F H F' H' -> Q i H'
def DO (X : Cx) (B : Bs) (e : Option Expr) (g : EnvD -> Option (Option Int)) : Prop := PO X e (lO X.kw B g)
theorem po_imp {e : Option Expr} {t t' : TO} (h : PO X e t) (k : ∀ σ H Q, t' σ H Q -> t σ H Q) : PO X e t' := fun pins s σ H Q I q => h pins s σ H Q I (k σ H Q q)
def gNone : EnvD -> Option (Option Int) := fun _ => some none
theorem do_none : DO X B none gNone := po_imp po_none fun σ H Q ⟨F, ρ, i, r, hg, k⟩ => by cases hg; exact k F H (.refl r.fh)
def asI : D -> Option Int
  | .int i => some i
  | _ => none
theorem asI_some {d : D} {i : Int} (h : asI d = some i) : d = .int i := by cases d <;> cases h; rfl
def gSome (g : EnvD -> Option D) : EnvD -> Option (Option Int) := fun ρ => (g ρ).bind fun d => (asI d).map some
theorem do_some (h : DR X B e g) : DO X B (some e) (gSome g) := po_imp (po_some h) fun σ H Q ⟨F, ρ, i, r, hg, k⟩ => by
  unfold gSome at hg
  cases q : g ρ with
  | none => rw [q] at hg; cases hg
  | some d =>
    rw [q] at hg
    cases q2 : asI d with
    | none => rw [show (some d).bind (fun d => (asI d).map some) = (asI d).map some from rfl, q2] at hg; cases hg
    | some j =>
      rw [show (some d).bind (fun d => (asI d).map some) = (asI d).map some from rfl, q2] at hg
      cases hg
      rw [asI_some q2] at q
      exact ⟨F, ρ, _, r, q, fun v F1 H1 e1 p1 => ⟨j, p1.int, k F1 H1 e1⟩⟩
def cutD {α : Type} (xs : List α) (lo hi : Option Int) : List α := (xs.drop (HT.sIx xs.length 0 lo)).take (HT.sIx xs.length xs.length hi - HT.sIx xs.length 0 lo)
def gSl (g : EnvD -> Option D) (gl gh : EnvD -> Option (Option Int)) : EnvD -> Option (List D) := fun ρ => (g ρ).bind fun d => (gl ρ).bind fun l => (gh ρ).bind fun h => match d with
  | .lst ds => some (cutD ds l h)
  | _ => none
theorem da_slice {lo hi : Option Expr} {gl gh : EnvD -> Option (Option Int)} {p2 : Pos} (he : DR X B e g) (hl : DO X B lo gl) (hh : DO X B hi gh) : DA X B (.Subscript e (.Slice lo hi none p2) pos) (gSl g gl gh) :=
  pe_imp (pe_slice sl_list he hl hh) fun σ H Q ⟨F, ρ, d, r, hg, k⟩ => by
    unfold gSl at hg
    cases q : g ρ with
    | none => rw [q] at hg; cases hg
    | some x =>
      cases ql : gl ρ with
      | none => rw [q, ql] at hg; cases hg
      | some l =>
        cases qh : gh ρ with
        | none => rw [q, ql, qh] at hg; cases hg
        | some h =>
          rw [q, ql, qh] at hg
          cases x with
          | lst ds =>
            cases hg
            refine ⟨F, ρ, _, r, q, fun v F1 H1 e1 p1 => ⟨F1, ρ, l, r.ext e1, ql, fun F2 H2 e2 => ⟨F2, ρ, h, r.ext (e1.trans e2), qh, fun F3 H3 e3 => ?_⟩⟩⟩
            have e := e1.trans (e2.trans e3)
            obtain ⟨a, vs, rfl, h1, h2⟩ := ((p1.mono e2.ff e2.hh).mono e3.ff e3.hh).lst e3.fh
            refine ⟨a, vs, rfl, .of h1, fun p hp => k _ F3 _ (e.trans (.new e.fh hp)) ⟨p, _, rfl, e.hh.free hp, upd_same, e.fh.free hp, ?_⟩⟩
            unfold cutD cutV
            rw [<- h2.length]
            exact (h2.drop _).take _
          | _ => cases hg
def CallOk {γ : Type} (K : KW) (r : List V -> Hp -> VK -> Prop) (pc : Post γ) (f : List D -> Option γ) : Prop :=
  ∀ F H vs ds d Q, Same F H -> Paired (fun d v => Rq K F H d v) ds vs -> f ds = some d -> (∀ v F' H', Ext F H F' H' -> pc F H F' H' d v -> Q v H') -> r vs H Q
def gB {γ : Type} (f : List D -> Option γ) (gs : EnvD -> Option (List D)) : EnvD -> Option γ := fun ρ => (gs ρ).bind f
theorem callB {γ : Type} {r : List V -> Hp -> VK -> Prop} {pc : Post γ} {f : List D -> Option γ} (hb : Back pc) (hr : CallOk X.kw r pc f) {σ : St} {H : Hp} {Q : VK} (h : lG X.kw B pc (gB f gs) σ H Q) : tCB r (lAs X.kw B (pR X.kw) gs) σ H Q := by
  obtain ⟨F, ρ, d, rr, hg, k⟩ := h
  unfold gB at hg
  cases q : gs ρ with
  | none => rw [q] at hg; cases hg
  | some ds =>
    rw [q] at hg
    exact ⟨F, ρ, ds, rr, q, fun vs F1 H1 e1 p1 => hr F1 H1 vs ds d Q e1.fh p1 hg fun v F' H' e p => k v F' H' (e1.trans e) (hb _ _ _ _ _ _ _ _ e1 p)⟩
variable {x : Str} {p : Pos} {id T : String}
theorem de_callB {r : List V -> Hp -> VK -> Prop} {f : List D -> Option D} (hc : CallR X (.builtin id) r) (hr : CallOk X.kw r (pE X.kw) f) (hg : Gl X x) (hm : X.mg x = none) (hv : bootBuiltins x = some (.builtin id)) (ha : DRs X B (e :: es) gs) (hn : x ≠ "__name__" := by decide) (hdb : (x == ("__debug__" : Str)) = false := by decide)
    (he : starEach (e :: es) X.env = (false, eval e X.env) :: starEach es X.env := by rfl) (hpl : (backTo pos (starEach es X.env)).any (·.1) = false := by rfl) : DE X B (.Call (.Name x p) (e :: es) [] pos) (gB f gs) :=
  pe_imp (pe_callB hc hg hm hv ha hn hdb he hpl) fun σ H Q h => callB back_E hr h
theorem da_callTy {r : List V -> Hp -> VK -> Prop} {f : List D -> Option (List D)} (hc : CallR X (.type T) r) (hr : CallOk X.kw r (pA X.kw) f) (hg : Gl X x) (hm : X.mg x = none) (hv : bootBuiltins x = some (.type T)) (ha : DRs X B (e :: es) gs) (hn : x ≠ "__name__" := by decide) (hdb : (x == ("__debug__" : Str)) = false := by decide)
    (he : starEach (e :: es) X.env = (false, eval e X.env) :: starEach es X.env := by rfl) (hpl : (backTo pos (starEach es X.env)).any (·.1) = false := by rfl) : DA X B (.Call (.Name x p) (e :: es) [] pos) (gB f gs) :=
  pe_imp (pe_callTy hc hg hm hv ha hn hdb he hpl) fun σ H Q h => callB back_A hr h
theorem de_callTy {r : List V -> Hp -> VK -> Prop} {f : List D -> Option D} (hc : CallR X (.type T) r) (hr : CallOk X.kw r (pE X.kw) f) (hg : Gl X x) (hm : X.mg x = none) (hv : bootBuiltins x = some (.type T)) (ha : DRs X B (e :: es) gs) (hn : x ≠ "__name__" := by decide) (hdb : (x == ("__debug__" : Str)) = false := by decide)
    (he : starEach (e :: es) X.env = (false, eval e X.env) :: starEach es X.env := by rfl) (hpl : (backTo pos (starEach es X.env)).any (·.1) = false := by rfl) : DE X B (.Call (.Name x p) (e :: es) [] pos) (gB f gs) :=
  pe_imp (pe_callTy hc hg hm hv ha hn hdb he hpl) fun σ H Q h => callB back_E hr h
def fLen : List D -> Option D
  | [.lst ds] => some (.int ds.length)
  | [.tup ds] => some (.int ds.length)
  | [.scr ns] => some (.int ns.length)
  | [.str x] => if x.length <= TOP then some (.int x.length) else none
  | _ => none
theorem pair1 {R : D -> V -> Prop} {d : D} {vs : List V} (h : Paired R [d] vs) : ∃ v, vs = [v] /\ R d v := by
  cases h with
  | cons r t => cases t; exact ⟨_, rfl, r⟩
theorem pair2 {R : D -> V -> Prop} {d d' : D} {vs : List V} (h : Paired R [d, d'] vs) : ∃ v v', vs = [v, v'] /\ R d v /\ R d' v' := by
  cases h with
  | cons r t =>
    obtain ⟨v', rfl, r'⟩ := pair1 t
    exact ⟨_, v', rfl, r, r'⟩
theorem ok_len {K : KW} : CallOk K (fun xs H Q => ∃ x n, xs = [x] /\ LenV K x H n /\ Q (.int n) H) (pE K) fLen := by
  intro F H vs ds d Q s hp e k
  unfold fLen at e
  split at e
  · cases e
    obtain ⟨v, rfl, r⟩ := pair1 hp
    obtain ⟨a, ws, rfl, h1, h2⟩ := r.lst s
    exact ⟨_, _, rfl, .inl ⟨ws, .of h1, h2.length⟩, k _ F H (.refl s) rfl⟩
  · cases e
    obtain ⟨v, rfl, r⟩ := pair1 hp
    obtain ⟨a, ws, rfl, h1, h2⟩ := r.tup s
    exact ⟨_, _, rfl, .inr ⟨ws, .of h1, h2.length⟩, k _ F H (.refl s) rfl⟩
  · cases e
    obtain ⟨v, rfl, r⟩ := pair1 hp
    obtain ⟨a, rfl, h1⟩ := r.scr s
    exact ⟨_, _, rfl, .inl ⟨_, h1, by simp⟩, k _ F H (.refl s) rfl⟩
  · split at e
    · rename_i hc
      cases e
      obtain ⟨v, rfl, r⟩ := pair1 hp
      cases r.str
      exact ⟨_, _, rfl, ⟨top_line hc, rfl⟩, k _ F H (.refl s) rfl⟩
    · cases e
  · cases e
def fMax : List D -> Option D
  | [.int i, .int j] => some (.int (if j > i then j else i))
  | _ => none
def fMin : List D -> Option D
  | [.int i, .int j] => some (.int (if j < i then j else i))
  | _ => none
theorem ok_max {K : KW} : CallOk K (fun xs H Q => ∃ i j, xs = [.int i, .int j] /\ Q (.int (if j > i then j else i)) H) (pE K) fMax := by
  intro F H vs ds d Q s hp e k
  unfold fMax at e
  split at e
  · cases e
    obtain ⟨v, v', rfl, r, r'⟩ := pair2 hp
    cases r.int; cases r'.int
    exact ⟨_, _, rfl, k _ F H (.refl s) rfl⟩
  · cases e
theorem ok_min {K : KW} : CallOk K (fun xs H Q => ∃ i j, xs = [.int i, .int j] /\ Q (.int (if j < i then j else i)) H) (pE K) fMin := by
  intro F H vs ds d Q s hp e k
  unfold fMin at e
  split at e
  · cases e
    obtain ⟨v, v', rfl, r, r'⟩ := pair2 hp
    cases r.int; cases r'.int
    exact ⟨_, _, rfl, k _ F H (.refl s) rfl⟩
  · cases e
end
section
variable {X : Cx} {B : Bs} {e a b c : Expr} {es : List Expr} {pos p p2 : Pos} {g ga gb : EnvD -> Option D} {gs : EnvD -> Option (List D)}
def tyD : D -> Option String
  | .non => some "NoneType"
  | .bl _ => some "bool"
  | .int _ => some "int"
  | .str _ => some "str"
  | .lst _ => some "list"
  | .tup _ => some "tuple"
  | .scr _ => none
  | .obj _ _ _ => none
  | .emp => some "dict"
def subT (t T : String) : Option Bool := if t = T then some true else if t = "bool" /\ T = "int" then some true else if (t ∈ ["NoneType", "bool", "int", "str", "list", "tuple", "dict"]) /\ (T ∈ ["bool", "int", "str", "list", "tuple", "dict"]) then some false else none
theorem ty_of {K : KW} {F H : Hp} (s : Same F H) {d : D} {v : V} {t : String} (r : Rq K F H d v) (h : tyD d = some t) : TyOf K H v (.type t) := by
  cases d with
  | non => cases r.non; cases h; exact .non
  | bl x => cases r.bl; cases h; exact .bl x
  | int x => cases r.int; cases h; exact .int x
  | str x => cases r.str; cases h; exact .str x
  | lst ds => obtain ⟨a, vs, rfl, q, _⟩ := r.lst s; cases h; exact .lst q
  | tup ds => obtain ⟨a, vs, rfl, q, _⟩ := r.tup s; cases h; exact .tup q
  | scr ns => cases h
  | obj C f ds => cases h
  | emp => obtain ⟨a, rfl, q⟩ := r.one fun _ z => (nomatch z); cases h; exact .dK (s _ _ q)
def gIs (T : String) (g : EnvD -> Option D) : EnvD -> Option D := fun ρ => (g ρ).bind fun d => (tyD d).bind fun t => (subT t T).map D.bl
theorem call_isinst {T : String} (hk : ∀ t b, subT t T = some b -> PySem.W.kitOne X.kw (.type t) (.type T) = some b) :
    CallR X (.builtin "isinstance") (fun xs H Q => ∃ x t b, xs = [x, .ty T] /\ TyOf X.kw H x (.type t) /\ subT t T = some b /\ Q (.bl b) H) := by
  intro pins s σ H vs us Q I r h
  obtain ⟨x, t, b, rfl, ty, hb, q⟩ := h
  obtain ⟨u, w, rfl, ru, rw'⟩ := vals2 r
  cases rw'
  exact isinst_ok I ru ty (hk t b hb) fun tk => ⟨.bl b, H, I.tok tk, rfl, q⟩
theorem de_isinst {T : String} {x : Str} (hk : ∀ t b, subT t T = some b -> PySem.W.kitOne X.kw (.type t) (.type T) = some b) (hg : Gl X "isinstance") (hm : X.mg "isinstance" = none) (hgT : Gl X x) (hmT : X.mg x = none) (hvT : bootBuiltins x = some (.type T)) (ha : DR X B a g)
    (hnT : x ≠ "__name__" := by decide) (hdT : (x == ("__debug__" : Str)) = false := by decide)
    (he : starEach [a, .Name x p2] X.env = (false, eval a X.env) :: starEach [.Name x p2] X.env := by rfl) (he2 : starEach [.Name x p2] X.env = (false, eval (.Name x p2) X.env) :: starEach [] X.env := by rfl) (hpl : (backTo pos (starEach [.Name x p2] X.env)).any (·.1) = false := by rfl) :
    DE X B (.Call (.Name "isinstance" p) [a, .Name x p2] [] pos) (gIs T g) :=
  pe_imp (pe_callB (call_isinst (T := T) hk) hg hm (by decide +kernel) (pa_cons ha (pa_cons (pe_bltn hgT hmT hvT (v := .ty T) rfl hnT hdT) pa_nil he2) he) (by decide) (by decide) he hpl) fun σ H Q ⟨F, ρ, d, r, hg, k⟩ => by
    unfold gIs at hg
    cases q : g ρ with
    | none => rw [q] at hg; cases hg
    | some x =>
      rw [q] at hg
      have hg : ((tyD x).bind fun t => (subT t T).map D.bl) = some d := hg
      cases q2 : tyD x with
      | none => rw [q2] at hg; cases hg
      | some t =>
        rw [q2] at hg
        have hg : (subT t T).map D.bl = some d := hg
        cases q3 : subT t T with
        | none => rw [q3] at hg; cases hg
        | some y =>
          rw [q3] at hg
          cases hg
          exact ⟨F, ρ, x, r, q, fun v F1 H1 e1 p1 => ⟨v, t, y, rfl, ty_of e1.fh p1 q2, q3, k _ F1 H1 e1 rfl⟩⟩
theorem call_allL (hc : X.calm = true) : CallR X (.builtin "all") (fun xs H Q => ∃ (a : Addr) (bs : List Bool), xs = [.ref a] /\ SqL X.kw H a (bs.map V.bl) /\ Q (.bl (bs.all fun x => x)) H) := by
  intro pins s σ H vs us Q I r h
  obtain ⟨a, bs, rfl, hq, q⟩ := h
  obtain ⟨u, rfl, ru⟩ := vals1 r
  cases ru
  obtain ⟨its, rv, pl, hz⟩ := I.list hq
  have hlt : a < s.heap.objs.size := let ⟨o, n, e, _⟩ := pl; Heap.lt_size e
  have hl : bs.length = its.length := by have := rv.length; simpa using this
  refine call_all_walk (wpAny_pyIter_list pl.isList ⟨s.heap.objs.size, _, _, _, _, _, fun i => bs.getD i false, rfl, Walks.list (A := X.A.in1) (I.ok.hd hc) s.heap.objs.size a (Nat.ne_of_lt hlt) its.toArray, ⟨⟨_, Heap.get?_push_size _ rfl, rfl, rfl⟩, ?_⟩, ?_, fun h' tk hk => ?_⟩)
  · obtain ⟨o, n, e, c1, c2, c3⟩ := pl
    exact ⟨o, Heap.get?_push_of_some _ e, c1, n, c3⟩
  · intro i v s' Q' E' hv hq'
    have hv : its[i]? = some v := by simpa using hv
    have hi : i < bs.length := by rw [hl]; exact (List.getElem?_eq_some_iff.mp hv).1
    have hb : (bs.map V.bl)[i]? = some (.bl bs[i]) := by simp [hi]
    obtain ⟨u, hu, ru⟩ := rv.get hb
    rw [hv] at hu; cases hu
    cases ru
    have e : bs.getD i false = bs[i] := by simp [List.getD, hi]
    have hq' : Q' (bs.getD i false) s' := hq'
    rw [e] at hq'
    exact wpAny_truthy_bool hq'
  · have e : ((List.range its.toArray.size).all fun i => bs.getD i false) = bs.all fun x => x := by
      rw [List.size_toArray, <- hl, Bool.eq_iff_iff]
      simp only [List.all_eq_true, List.mem_range]
      constructor
      · intro h x hx
        obtain ⟨i, hi, e⟩ := List.mem_iff_getElem.mp hx
        have := h i hi
        simpa [List.getD, hi, e] using this
      · intro h i hi
        have := h bs[i] (List.getElem_mem hi)
        simpa [List.getD, hi] using this
    rw [e]
    refine ⟨.bl (bs.all fun x => x), H, I.kept (t' := tk) fun b o e => hk b o (fun z => ?_) (Heap.get?_push_of_some _ e), rfl, q⟩
    have : b = s.heap.objs.size := by simpa using z
    exact absurd (Heap.lt_size e) (by rw [this]; exact Nat.lt_irrefl _)
def asBs : List D -> Option (List Bool)
  | [] => some []
  | .bl b :: r => (asBs r).map (b :: ·)
  | _ => none
theorem asBs_rps {K : KW} {F : Hp} : ∀ {ds : List D} {vs : List V} {bs : List Bool}, asBs ds = some bs -> Rps K F ds vs -> vs = bs.map V.bl
  | [], _, _, e, h => by cases e; cases h; rfl
  | .bl b :: r, _, _, e, ⟨v, w, e1, h, t⟩ => by
    subst e1; cases h
    cases q : asBs r with
    | none => rw [show asBs (.bl b :: r) = (asBs r).map (b :: ·) from rfl, q] at e; cases e
    | some bs =>
      rw [show asBs (.bl b :: r) = (asBs r).map (b :: ·) from rfl, q] at e
      cases e
      rw [asBs_rps q t]; rfl
  | .non :: _, _, _, e, _ => by cases e
  | .int _ :: _, _, _, e, _ => by cases e
  | .str _ :: _, _, _, e, _ => by cases e
  | .lst _ :: _, _, _, e, _ => by cases e
  | .tup _ :: _, _, _, e, _ => by cases e
  | .scr _ :: _, _, _, e, _ => by cases e
  | .obj _ _ _ :: _, _, _, e, _ => by cases e
  | .emp :: _, _, _, e, _ => by cases e
def fAll : List D -> Option D
  | [.lst ds] => (asBs ds).map fun bs => .bl (bs.all fun x => x)
  | _ => none
theorem ok_all {K : KW} : CallOk K (fun xs H Q => ∃ (a : Addr) (bs : List Bool), xs = [.ref a] /\ SqL K H a (bs.map V.bl) /\ Q (.bl (bs.all fun x => x)) H) (pE K) fAll := by
  intro F H vs ds d Q s hp e k
  unfold fAll at e
  split at e
  · rename_i ds
    obtain ⟨v, rfl, r⟩ := pair1 hp
    obtain ⟨a, ws, rfl, h1, h2⟩ := r.lst s
    cases q : asBs ds with
    | none => rw [q] at e; cases e
    | some bs =>
      rw [q] at e
      cases e
      have := asBs_rps q h2
      subst this
      exact ⟨a, bs, rfl, .of h1, k _ F H (.refl s) rfl⟩
  · cases e
def ArgE (K : KW) (F H : Hp) : En -> V -> Prop
  | .val d, v => Rp K F d v
  | .bor ds, v => ∃ a vs, v = .ref a /\ H a = some (.lst vs) /\ Rps K F ds vs
  | .dbo kvs, v => ∃ a ob vs, v = .ref a /\ H a = some (DX K.w a ob vs) /\ Rkv K F kvs vs
  | _, _ => False
theorem ArgE.ext {K : KW} {F H F' H' : Hp} (e : Ext F H F' H') : ∀ {x : En} {v : V}, ArgE K F H x v -> ArgE K F' H' x v
  | .val _, _, h => Rp.mono e.ff h
  | .bor _, _, ⟨a, vs, e1, e2, e3⟩ => ⟨a, vs, e1, e.hh _ _ e2, e3.mono e.ff⟩
  | .acc _, _, h => h
  | .oac _ _ _ _ _, _, h => h
  | .tre _, _, h => h
  | .dct _ _, _, h => h
  | .dbo _, _, ⟨a, ob, vs, e1, e2, e3⟩ => ⟨a, ob, vs, e1, e.hh _ _ e2, e3.mono e.ff⟩
def pN (K : KW) : Post En := fun _ _ F' H' x v => ArgE K F' H' x v
def DN (X : Cx) (B : Bs) (e : Expr) (g : EnvD -> Option En) : Prop := PE X e (lG X.kw B (pN X.kw) g)
def lNs (K : KW) (B : Bs) (g : EnvD -> Option (List En)) : TA := fun σ H Q =>
  ∃ F ρ xs, Rep K B F σ H ρ /\ g ρ = some xs /\ ∀ vs F' H', Ext F H F' H' -> Paired (fun x v => ArgE K F' H' x v) xs vs -> Q vs H'
def DNs (X : Cx) (B : Bs) (es : List Expr) (g : EnvD -> Option (List En)) : Prop := PA X es (lNs X.kw B g)
def gVal (g : EnvD -> Option D) : EnvD -> Option En := fun ρ => (g ρ).map En.val
theorem dn_val (h : DE X B e g) : DN X B e (gVal g) := pe_imp h fun σ H Q ⟨F, ρ, x, r, hg, k⟩ => by
  unfold gVal at hg
  cases q : g ρ with
  | none => rw [q] at hg; cases hg
  | some d => rw [q] at hg; cases hg; exact ⟨F, ρ, d, r, q, fun v F' H' e p => k v F' H' e p⟩
def gn (i : Nat) : EnvD -> Option En := fun ρ => match ρ[i]? with
  | some (some (.val d)) => some (.val d)
  | some (some (.acc ds)) => some (.bor ds)
  | some (some (.bor ds)) => some (.bor ds)
  | some (some (.dct _ kvs)) => some (.dbo kvs)
  | some (some (.dbo kvs)) => some (.dbo kvs)
  | _ => none
theorem dn_var (i : Nat) {x : Str} (h : PE X (.Name x pos) (tVar i)) : DN X B (.Name x pos) (gn i) :=
  pe_imp h fun σ H Q ⟨F, ρ, d, r, hg, k⟩ => by
    unfold gn at hg
    split at hg
    · rename_i d' e
      cases hg
      obtain ⟨v, h1, h2⟩ := r.ents i _ e
      exact ⟨v, h1, k v F H (.refl r.fh) h2⟩
    · rename_i ds e
      cases hg
      obtain ⟨v, h1, a, vs, e1, e2, e3, e4, e5⟩ := r.ents i _ e
      exact ⟨v, h1, k v F H (.refl r.fh) ⟨a, vs, e1, e2, e5⟩⟩
    · rename_i ds e
      cases hg
      obtain ⟨v, h1, a, vs, e1, e2, e5⟩ := r.ents i _ e
      exact ⟨v, h1, k v F H (.refl r.fh) ⟨a, vs, e1, r.ex.hh _ _ e2, e5⟩⟩
    · rename_i oa kvs e
      cases hg
      obtain ⟨v, h1, a, ob, vs, e1, e2, e3, e4, e5, e6⟩ := r.ents i _ e
      exact ⟨v, h1, k v F H (.refl r.fh) ⟨a, ob, vs, e1, e2, e5⟩⟩
    · rename_i kvs e
      cases hg
      obtain ⟨v, h1, a, ob, vs, e1, e2, e5⟩ := r.ents i _ e
      exact ⟨v, h1, k v F H (.refl r.fh) ⟨a, ob, vs, e1, r.ex.hh _ _ e2, e5⟩⟩
    · cases hg
def nNil : EnvD -> Option (List En) := fun _ => some []
def nCons (g : EnvD -> Option En) (gs : EnvD -> Option (List En)) : EnvD -> Option (List En) := fun ρ => (g ρ).bind fun d => (gs ρ).bind fun ds => some (d :: ds)
variable {gx : EnvD -> Option En} {gxs : EnvD -> Option (List En)}
theorem dns_nil : DNs X B [] nNil := pa_imp pa_nil fun σ H Q ⟨F, ρ, ds, r, hg, k⟩ => by cases hg; exact k [] F H (.refl r.fh) .nil
theorem dns_cons (ha : DN X B e gx) (hr : DNs X B es gxs) (hs : starEach (e :: es) X.env = (false, eval e X.env) :: starEach es X.env := by rfl) : DNs X B (e :: es) (nCons gx gxs) :=
  pa_imp (pa_cons ha hr hs) fun σ H Q ⟨F, ρ, ds, r, hg, k⟩ => by
    obtain ⟨d, dr, q1, q2, q3⟩ := bind2 hg
    cases q3
    exact ⟨F, ρ, d, r, q1, fun v F1 H1 e1 p1 => ⟨F1, ρ, dr, r.ext e1, q2, fun vs F2 H2 e2 p2 => k _ F2 H2 (e1.trans e2) (.cons (ArgE.ext e2 p1) p2)⟩⟩
def pSp (K : KW) (n : Nat) (m : List En -> Option En) : Sp := fun vs H Q _ =>
  ∃ F xs o, Same F H /\ xs.length = n /\ Paired (fun x v => ArgE K F H x v) xs vs /\ m xs = some o /\ ∀ v F' H', Ext F H F' H' -> RepE K ⟨F, H⟩ F' H' o v -> Q v H'
def frzO : En -> Option D
  | .val d => some d
  | .acc ds => some (.lst ds)
  | .tre t => some t.erase
  | _ => none
def accO : En -> Option (List D)
  | .acc ds => some ds
  | _ => none
theorem frzO_ok {K : KW} {F H F' H' : Hp} {o : En} {d : D} {v : V} (hd : frzO o = some d) (e : Ext F H F' H') (r : RepE K ⟨F, H⟩ F' H' o v) : ∃ F2, Ext F H F2 H' /\ Rp K F2 d v := by
  cases o with
  | val x => cases hd; exact ⟨F', e, r⟩
  | acc ds =>
    cases hd
    obtain ⟨a, vs, rfl, h1, h2, h3, h4⟩ := r
    exact ⟨upd F' a (.lst vs), e.freeze h3 h2 h1, ⟨a, vs, rfl, upd_same, h4.mono (same_upd h2)⟩⟩
  | tre t =>
    cases hd
    obtain ⟨r1, r2, r3⟩ := r
    have sf : Same F' (addF F' H' (feetO H' t v)) := same_addF fun a ha => (r3 a ha).1
    refine ⟨addF F' H' (feetO H' t v), ⟨e.ff.trans sf, e.hh, fun b u q => ?_, fun b q => ?_⟩, RepO.fz sf r1 fun a ha => ha⟩
    · unfold addF at q
      split at q
      · exact q
      · exact e.fh b u q
    · unfold addF at q
      split at q
      · rename_i hb; exact .inr (r3 b hb).2
      · exact e.nw b q
  | _ => cases hd
def gCall {α : Type} (m : List En -> Option En) (f : En -> Option α) (gs : EnvD -> Option (List En)) : EnvD -> Option α := fun ρ => ((gs ρ).bind m).bind f
theorem bindC {α : Type} {m : List En -> Option En} {f : En -> Option α} {gs : EnvD -> Option (List En)} {ρ : EnvD} {y : α} (h : gCall m f gs ρ = some y) : ∃ xs o, gs ρ = some xs /\ m xs = some o /\ f o = some y := by
  unfold gCall at h
  cases q : gs ρ with
  | none => rw [q] at h; cases h
  | some xs =>
    rw [q] at h
    cases q2 : m xs with
    | none => rw [show (some xs).bind m = m xs from rfl, q2] at h; cases h
    | some o => rw [show (some xs).bind m = m xs from rfl, q2] at h; exact ⟨xs, o, rfl, q2, h⟩
theorem paired_len {α β : Type} {R : α -> β -> Prop} {l : List α} {r : List β} (h : Paired R l r) : l.length = r.length := Paired.length h
theorem call_E {n : Nat} {m : List En -> Option En} (hm : ∀ xs o, m xs = some o -> xs.length = n) {E : XK} {σ : St} {H : Hp} {Q : VK} (h : lG X.kw B (pE X.kw) (gCall m frzO gxs) σ H Q) : tCall (pSp X.kw n m) [] E (lNs X.kw B gxs) σ H Q := by
  obtain ⟨F, ρ, d, r, hg, k⟩ := h
  obtain ⟨xs, o, q1, q2, q3⟩ := bindC hg
  refine ⟨F, ρ, xs, r, q1, fun vs F1 H1 e1 p1 => ?_⟩
  show pSp X.kw n m (vs ++ []) H1 Q E
  rw [List.append_nil]
  refine ⟨F1, xs, o, e1.fh, hm xs o q2, p1, q2, fun v F2 H2 e2 p2 => ?_⟩
  obtain ⟨F3, e3, p3⟩ := frzO_ok q3 e2 p2
  exact k v F3 H2 (e1.trans e3) p3
theorem call_A {n : Nat} {m : List En -> Option En} (hm : ∀ xs o, m xs = some o -> xs.length = n) {E : XK} {σ : St} {H : Hp} {Q : VK} (h : lG X.kw B (pA X.kw) (gCall m accO gxs) σ H Q) : tCall (pSp X.kw n m) [] E (lNs X.kw B gxs) σ H Q := by
  obtain ⟨F, ρ, d, r, hg, k⟩ := h
  obtain ⟨xs, o, q1, q2, q3⟩ := bindC hg
  refine ⟨F, ρ, xs, r, q1, fun vs F1 H1 e1 p1 => ?_⟩
  show pSp X.kw n m (vs ++ []) H1 Q E
  rw [List.append_nil]
  refine ⟨F1, xs, o, e1.fh, hm xs o q2, p1, q2, fun v F2 H2 e2 p2 => ?_⟩
  cases o with
  | acc ds =>
    cases q3
    obtain ⟨a, ws, h1, h2, h3, h4, h5⟩ := p2
    exact k v F2 H2 (e1.trans e2) ⟨a, ws, h1, e1.hh.free h4, h2, h3, h5⟩
  | _ => cases q3
def len? (n : Nat) (m : List En -> Option En) : List En -> Option En := fun xs => if xs.length = n then m xs else none
theorem len_of {n : Nat} {m : List En -> Option En} : ∀ xs o, len? n m xs = some o -> xs.length = n := fun xs o h => by
  unfold len? at h
  split at h
  · assumption
  · cases h
variable {x mm : Str} {f C : Addr} {fd : FuncData} {ps : List Str} {n k : Nat} {m : List En -> Option En} {apos : Pos} {o : Expr}
theorem de_call (F : FnOk X.prog X.w X.kw X.mg X.base CX0 k f fd ps (pSp X.kw n (len? n m))) (hr : Room k X.A) (hg : Gl X x) (hm : X.mg x = some (.ref f)) (hk : PySem.W.keepIn X.kw (.ref f) = true) (hb : Binds X.kw fd ps [])
    (ha : DNs X B (e :: es) gxs) (hdb : (x == ("__debug__" : Str)) = false := by decide) (he : starEach (e :: es) X.env = (false, eval e X.env) :: starEach es X.env := by rfl) (hpl : (backTo pos (starEach es X.env)).any (·.1) = false := by rfl) :
    DE X B (.Call (.Name x p) (e :: es) [] pos) (gCall (len? n m) frzO gxs) :=
  pe_imp (pe_call F hr hg hm hk hb .nil pass0 ha hdb he hpl) fun σ H Q h => call_E len_of h
theorem da_call (F : FnOk X.prog X.w X.kw X.mg X.base CX0 k f fd ps (pSp X.kw n (len? n m))) (hr : Room k X.A) (hg : Gl X x) (hm : X.mg x = some (.ref f)) (hk : PySem.W.keepIn X.kw (.ref f) = true) (hb : Binds X.kw fd ps [])
    (ha : DNs X B (e :: es) gxs) (hdb : (x == ("__debug__" : Str)) = false := by decide) (he : starEach (e :: es) X.env = (false, eval e X.env) :: starEach es X.env := by rfl) (hpl : (backTo pos (starEach es X.env)).any (·.1) = false := by rfl) :
    DA X B (.Call (.Name x p) (e :: es) [] pos) (gCall (len? n m) accO gxs) :=
  pe_imp (pe_call F hr hg hm hk hb .nil pass0 ha hdb he hpl) fun σ H Q h => call_A len_of h
end
section
variable {X : Cx} {B : Bs} {e a b c o : Expr} {es : List Expr} {pos p apos : Pos} {g ga gb : EnvD -> Option D} {gx : EnvD -> Option En} {gxs : EnvD -> Option (List En)} {C f : Addr} {fl mm x : Str} {fd : FuncData} {ps : List Str} {n k : Nat} {m : List En -> Option En}
def iSp (K : KW) (C : Addr) (n : Nat) (mi : Addr -> Addr -> List En -> Option (List Str × List D)) : Sp := fun vs H Q _ =>
  ∃ F H1 xs x dx vs' fs ds, vs = .ref x :: vs' /\ H1 x = none /\ H1 dx = none /\ dx ≠ x /\ H = upd (upd H1 dx (.own x)) x (.ins C dx []) /\ Same F H1 /\ xs.length = n /\ Paired (fun y v => ArgE K F H1 y v) xs vs' /\ mi x dx xs = some (fs, ds) /\
    ∀ F' H' us, Ext F H1 F' H' -> F' x = none -> H' x = some (.ins C dx (fs.zip us)) -> fs.length = us.length -> Rps K F' ds us -> Q .non H'
end
inductive Fl where
  | next (ρ : EnvD) | ret (o : En) | brk (ρ : EnvD) | cont (ρ : EnvD)
def Fl.ok (K : KW) (B : Bs) (F : Hp) (E : Ends) : Fl -> Prop
  | .next ρ => ∀ σ' F' H', Rep K B F' σ' H' ρ -> Same F F' -> E.nx σ' H'
  | .brk ρ => ∀ σ' F' H', Rep K B F' σ' H' ρ -> Same F F' -> E.bk σ' H'
  | .cont ρ => ∀ σ' F' H', Rep K B F' σ' H' ρ -> Same F F' -> E.ct σ' H'
  | .ret o => ∀ v F' H', Ext B.F0 B.H0 F' H' -> RepE K B F' H' o v -> E.rt v H'
abbrev SD := EnvD -> Option Fl
def lS (K : KW) (B : Bs) (g : SD) : TS := fun E σ H => ∃ F ρ fl, Rep K B F σ H ρ /\ g ρ = some fl /\ fl.ok K B F E
def DS (X : Cx) (B : Bs) (st : Stmt) (g : SD) : Prop := PS X st (lS X.kw B g)
def DSs (X : Cx) (B : Bs) (sts : List Stmt) (g : SD) : Prop := PSs X sts (lS X.kw B g)
theorem Fl.ok.mono {K : KW} {B : Bs} {F F' : Hp} {E : Ends} {fl : Fl} (s : Same F F') (h : fl.ok K B F E) : fl.ok K B F' E := by
  cases fl with
  | next ρ => exact fun σ' F2 H' r s2 => h σ' F2 H' r (s.trans s2)
  | brk ρ => exact fun σ' F2 H' r s2 => h σ' F2 H' r (s.trans s2)
  | cont ρ => exact fun σ' F2 H' r s2 => h σ' F2 H' r (s.trans s2)
  | ret o => exact h
section
variable {X : Cx} {B : Bs} {e a b c o : Expr} {es : List Expr} {st : Stmt} {rest : List Stmt} {pos p apos : Pos} {g ga gb : EnvD -> Option D} {gl : EnvD -> Option (List D)} {gs1 gs2 : SD} {x : Str}
def sSeq (g1 g2 : SD) : SD := fun ρ => (g1 ρ).bind fun fl => match fl with
  | .next ρ' => g2 ρ'
  | fl => some fl
def sNext : SD := fun ρ => some (.next ρ)
theorem dss_nil : DSs X B [] sNext := pss_imp pss_nil fun E σ H ⟨F, ρ, fl, r, hg, k⟩ => by cases hg; exact k σ F H r (Same.refl _)
theorem dss_one (h : DS X B st gs1) : DSs X B [st] gs1 := pss_one h
theorem dss_cons (h1 : DS X B st gs1) (h2 : DSs X B rest gs2) : DSs X B (st :: rest) (sSeq gs1 gs2) :=
  pss_imp (pss_cons h1 h2) fun E σ H ⟨F, ρ, fl, r, hg, k⟩ => by
    unfold sSeq at hg
    cases q : gs1 ρ with
    | none => rw [q] at hg; cases hg
    | some f1 =>
      rw [q] at hg
      refine ⟨F, ρ, f1, r, q, ?_⟩
      cases f1 with
      | next ρ' => exact fun σ' F' H' r' s' => ⟨F', ρ', fl, r', hg, k.mono s'⟩
      | brk ρ' => cases hg; exact k
      | cont ρ' => cases hg; exact k
      | ret o' => cases hg; exact k
def sSet (i : Nat) (g : EnvD -> Option D) : SD := fun ρ => (g ρ).map fun d => .next (ρ.set i (some (.val d)))
def sSetA (i : Nat) (g : EnvD -> Option (List D)) : SD := fun ρ => (g ρ).map fun ds => .next (ρ.set i (some (.acc ds)))
theorem set_ok {i : Nat} {E : Ends} {σ : St} {H : Hp} (h : lS X.kw B (sSet i g) E σ H) : tAsg (lG X.kw B (pE X.kw) g) (gName i) E σ H := by
  obtain ⟨F, ρ, fl, r, hg, k⟩ := h
  unfold sSet at hg
  cases q : g ρ with
  | none => rw [q] at hg; cases hg
  | some d =>
    rw [q] at hg
    cases hg
    exact ⟨F, ρ, d, r, q, fun v F1 H1 e1 p1 => k _ F1 H1 ((r.ext e1).setv p1) e1.ff⟩
theorem setA_ok {i : Nat} {E : Ends} {σ : St} {H : Hp} (h : lS X.kw B (sSetA i gl) E σ H) : tAsg (lG X.kw B (pA X.kw) gl) (gName i) E σ H := by
  obtain ⟨F, ρ, fl, r, hg, k⟩ := h
  unfold sSetA at hg
  cases q : gl ρ with
  | none => rw [q] at hg; cases hg
  | some ds =>
    rw [q] at hg
    cases hg
    refine ⟨F, ρ, ds, r, q, fun v F1 H1 e1 p1 => k _ F1 H1 ((r.ext e1).seto ?_ ?_) e1.ff⟩
    · obtain ⟨a, vs, h1, h2, h3, h4, h5⟩ := p1
      exact ⟨a, vs, h1, h3, h4, r.ex.hh.free h2, h5⟩
    · intro j y w hj hs _ b hb hc
      obtain ⟨a, vs, h1, h2, h3, h4, h5⟩ := p1
      subst h1
      simp only [feetE, List.mem_singleton] at hb
      subst hb
      obtain ⟨w', hw, hr⟩ := r.ents j y hj
      rw [hs] at hw; cases hw
      rw [hr.feet_ext e1.hh] at hc
      exact (hr.feet_at hc).1 h2
theorem ds_set {i : Nat} {x : Str} {pos' : Pos} (hN : X.N.Nodup) (hi : X.N[i]? = some x) (hx : Loc X.env.scope x) (he : DE X B e g) (hs : swapsWith e (some (.Name x pos')) pos.line X.env = pure false := by rfl) (hf : X.fn x = true ∨ X.env.scope.names.lookup x = some .local := by first | exact .inl rfl | exact .inr rfl | assumption) :
    DS X B (.Assign [.Name x pos'] e pos) (sSet i g) := ps_imp (ps_set hN hi hx he hs hf) fun E σ H h => set_ok h
theorem ds_setA {i : Nat} {x : Str} {pos' : Pos} (hN : X.N.Nodup) (hi : X.N[i]? = some x) (hx : Loc X.env.scope x) (he : DA X B e gl) (hs : swapsWith e (some (.Name x pos')) pos.line X.env = pure false := by rfl) (hf : X.fn x = true ∨ X.env.scope.names.lookup x = some .local := by first | exact .inl rfl | exact .inr rfl | assumption) :
    DS X B (.Assign [.Name x pos'] e pos) (sSetA i gl) := ps_imp (ps_set hN hi hx he hs hf) fun E σ H h => setA_ok h
def sRet (g : EnvD -> Option D) : SD := fun ρ => (g ρ).map fun d => .ret (.val d)
def sRetA (g : EnvD -> Option (List D)) : SD := fun ρ => (g ρ).map fun d => .ret (.acc d)
theorem ds_ret (he : DE X B e g) : DS X B (.Return (some e) pos) (sRet g) := ps_imp (ps_ret he) fun E σ H ⟨F, ρ, fl, r, hg, k⟩ => by
  unfold sRet at hg
  cases q : g ρ with
  | none => rw [q] at hg; cases hg
  | some d => rw [q] at hg; cases hg; exact ⟨F, ρ, d, r, q, fun v F1 H1 e1 p1 => k v F1 H1 (r.ex.trans e1) p1⟩
theorem ds_retA (he : DA X B e gl) : DS X B (.Return (some e) pos) (sRetA gl) := ps_imp (ps_ret he) fun E σ H ⟨F, ρ, fl, r, hg, k⟩ => by
  unfold sRetA at hg
  cases q : gl ρ with
  | none => rw [q] at hg; cases hg
  | some d =>
    rw [q] at hg; cases hg
    refine ⟨F, ρ, d, r, q, fun v F1 H1 e1 p1 => k v F1 H1 (r.ex.trans e1) ?_⟩
    obtain ⟨a, vs, h1, h2, h3, h4, h5⟩ := p1
    exact ⟨a, vs, h1, h3, h4, r.ex.hh.free h2, h5⟩
def sRetV (i : Nat) : SD := fun ρ => match ρ[i]? with
  | some (some (.acc ds)) => some (.ret (.acc ds))
  | some (some (.val d)) => some (.ret (.val d))
  | _ => none
theorem ds_retV (i : Nat) (h : PE X (.Name x p) (tVar i)) : DS X B (.Return (some (.Name x p)) pos) (sRetV i) := ps_imp (ps_ret h) fun E σ H ⟨F, ρ, fl, r, hg, k⟩ => by
  unfold sRetV at hg
  split at hg
  · rename_i ds q
    cases hg
    obtain ⟨v, h1, h2⟩ := r.ents i _ q
    exact ⟨v, h1, k v F H r.ex h2⟩
  · rename_i d q
    cases hg
    obtain ⟨v, h1, h2⟩ := r.ents i _ q
    exact ⟨v, h1, k v F H r.ex h2⟩
  · cases hg
def sIf (t : EnvD -> Option Bool) (g1 g2 : SD) : SD := fun ρ => (t ρ).bind fun b => if b then g1 ρ else g2 ρ
theorem ds_if {t : EnvD -> Option Bool} {as bs : List Stmt} (hc : DT X B c t) (ha : DSs X B as gs1) (hb : DSs X B bs gs2) : DS X B (.If c as bs pos) (sIf t gs1 gs2) := ps_imp (ps_if hc ha hb) fun E σ H ⟨F, ρ, fl, r, hg, k⟩ => by
  unfold sIf at hg
  cases q : t ρ with
  | none => rw [q] at hg; cases hg
  | some b =>
    rw [q] at hg
    refine ⟨F, ρ, b, r, q, fun F1 H1 e1 => ?_⟩
    cases b with
    | true => exact iteT ⟨F1, ρ, fl, r.ext e1, hg, k.mono e1.ff⟩
    | false => exact iteF ⟨F1, ρ, fl, r.ext e1, hg, k.mono e1.ff⟩
def sNever : SD := fun _ => none
theorem ds_never : DS X B st sNever := ps_imp ps_never fun E σ H ⟨F, ρ, fl, r, hg, k⟩ => by cases hg
def sApp (i : Nat) (g : EnvD -> Option D) : SD := fun ρ => match ρ[i]? with
  | some (some (.acc ds)) => (g ρ).bind fun d => if ds.length <= TOP then some (.next (ρ.set i (some (.acc (ds ++ [d]))))) else none
  | _ => none
theorem ds_app (i : Nat) {cpos : Pos} (hx : PE X (.Name x p) (tVar i)) (he : DE X B e g)
    (hbase : attributeBase (.Name x p) "append" X.env (eval (.Name x p) X.env) = eval (.Name x p) X.env := by rfl)
    (hfew : ((backTo cpos (starEach [e] X.env)).all (fun x => !x.1) && (backToKw cpos (keywordEach [] X.env)).all (fun x => x.1.isSome)
      && decide (([e] : List Expr).length + ([] : List Keyword).length + (if ([] : List Keyword).isEmpty then 0 else 1) < 30)) = true := by rfl)
    (hline : (apos.endLine == cpos.line) = true := by rfl) (hs : starEach [e] X.env = (false, eval e X.env) :: starEach [] X.env := by rfl) (hplain : (backTo cpos (starEach [] X.env)).any (·.1) = false := by rfl)
    (hsw : swapsWith (.Call (.Attribute (.Name x p) "append" apos) [e] [] cpos) none pos.line X.env = pure false := by rfl) :
    DS X B (.Expr (.Call (.Attribute (.Name x p) "append" apos) [e] [] cpos) pos) (sApp i g) :=
  ps_imp (ps_expr (pe_bm PySem.F.plainAttrs_list PySem.F.slot_list_append PySem.F.type_list_append mt_append hx (pa_cons he pa_nil hs) hbase hfew hline hs hplain) hsw) fun E σ H ⟨F, ρ, fl, r, hg, k⟩ => by
    unfold sApp at hg
    split at hg
    · rename_i ds q
      cases q2 : g ρ with
      | none => rw [q2] at hg; cases hg
      | some d =>
        rw [q2] at hg
        have hg : (if ds.length <= TOP then some (Fl.next (ρ.set i (some (.acc (ds ++ [d]))))) else none) = some fl := hg
        split at hg
        · rename_i hl
          cases hg
          obtain ⟨v, hv, a, vs, rfl, h1, h2, h3, h4⟩ := r.ents i _ q
          refine ⟨.ref a, hv, .inl ⟨rfl, _, .of h1⟩, F, ρ, d, r, q2, fun w F1 H1 e1 p1 => ?_⟩
          have r1 := r.ext e1
          obtain ⟨v', hv', a', vs', e', g1, g2, g3, g4⟩ := r1.ents i _ q
          rw [hv] at hv'; cases hv'; cases e'
          refine ⟨a, vs', w, rfl, rfl, g1, top_line' (by rw [<- g4.length]; exact hl), k σ F1 _ (r1.write q rfl hv g2 g3 ⟨a, _, rfl, upd_same, g2, g3, g4.snoc p1⟩ rfl) e1.ff⟩
        · cases hg
    · cases hg
def sPut (i : Nat) (gi g : EnvD -> Option D) : SD := fun ρ => match ρ[i]? with
  | some (some (.acc ds)) => (g ρ).bind fun d => ((gi ρ).bind asI).bind fun j => (ixN ds.length j).map fun n => .next (ρ.set i (some (.acc (ds.set n d))))
  | _ => none
theorem ds_put (i : Nat) {gi : EnvD -> Option D} {ie : Expr} (hx : PE X (.Name x p) (tVar i)) (hi : DE X B ie gi) (he : DE X B e g) {tpos : Pos}
    (ha : ∀ v, assign (.Subscript (.Name x p) ie tpos) X.env v = (do
      let ov <- holding [v] (eval (.Name x p) X.env)
      let iv <- holding [v, ov] (eval ie X.env)
      standAt tpos
      holding [v, ov, iv] (setItem ov iv v)
      release [v, ov, iv] []) := by intro _; rfl)
    (hs : swapsWithSole [.Subscript (.Name x p) ie tpos] e pos.line X.env = pure false := by rfl) (hw : swappedStores [.Subscript (.Name x p) ie tpos] e X.env = pure none := by rfl)
    (h1 : (assignEach [.Subscript (.Name x p) ie tpos] X.env).map (·.2) = [assign (.Subscript (.Name x p) ie tpos) X.env] := by rfl) :
    DS X B (.Assign [.Subscript (.Name x p) ie tpos] e pos) (sPut i gi g) :=
  ps_imp (ps_asg he (pg_sub hx hi set_list ha) hs hw h1) fun E σ H ⟨F, ρ, fl, r, hg, k⟩ => by
    unfold sPut at hg
    split at hg
    · rename_i ds q
      cases q2 : g ρ with
      | none => rw [q2] at hg; cases hg
      | some d =>
        cases q3 : gi ρ with
        | none => rw [q2, q3] at hg; cases hg
        | some di =>
          rw [q2, q3] at hg
          have hg : ((asI di).bind fun j => (ixN ds.length j).map fun n => Fl.next (ρ.set i (some (.acc (ds.set n d))))) = some fl := hg
          cases q4 : asI di with
          | none => rw [q4] at hg; cases hg
          | some j =>
            rw [q4] at hg
            have hg : ((ixN ds.length j).map fun n => Fl.next (ρ.set i (some (.acc (ds.set n d))))) = some fl := hg
            cases q5 : ixN ds.length j with
            | none => rw [q5] at hg; cases hg
            | some n =>
              rw [q5] at hg
              cases hg
              rw [asI_some q4] at q3
              refine ⟨F, ρ, d, r, q2, fun w F1 H1 e1 p1 => ?_⟩
              have r1 := r.ext e1
              obtain ⟨v, hv, a, vs, rfl, g1, g2, g3, g4⟩ := r1.ents i _ q
              refine ⟨.ref a, hv, F1, ρ, _, r1, q3, fun u F2 H2 e2 p2 => ?_⟩
              have r2 := r1.ext e2
              obtain ⟨v', hv', a', vs', e', f1, f2, f3, f4⟩ := r2.ents i _ q
              rw [hv] at hv'; cases hv'; cases e'
              exact ⟨a, vs', j, n, rfl, p2, f1, by rw [<- f4.length]; exact q5, k σ F2 _ (r2.write q rfl hv f2 f3 ⟨a, _, rfl, upd_same, f2, f3, Rps.set (Rp.mono e2.ff p1) n f4⟩ rfl) (e1.ff.trans e2.ff)⟩
    · cases hg
end
inductive Tgt where
  | name (i : Nat) | tup (is : List Nat)
def gNames : List Nat -> TGs
  | [] => L2.gNil
  | i :: is => gCons (gName i) (gNames is)
def tgT (K : KW) : Tgt -> TG
  | .name i => gName i
  | .tup is => gTup K is.length (gNames is)
def setMany : List Nat -> List D -> EnvD -> EnvD
  | i :: is, d :: ds, ρ => setMany is ds (ρ.set i (some (.val d)))
  | _, _, ρ => ρ
def asgD : Tgt -> D -> EnvD -> Option EnvD
  | .name i, d, ρ => some (ρ.set i (some (.val d)))
  | .tup is, .tup ds, ρ => if ds.length = is.length then some (setMany is ds ρ) else none
  | _, _, _ => none
inductive SetOf : List Nat -> St -> St -> Prop
  | refl {is σ} : SetOf is σ σ
  | step {is σ σ' i v} : i ∈ is -> SetOf is (σ.set i v) σ' -> SetOf is σ σ'
def Tgt.slots : Tgt -> List Nat
  | .name i => [i]
  | .tup is => is
theorem SetOf.pre {is : List Nat} {σ σ' : St} (h : SetOf is σ σ') : ∀ {σ1 cv : St}, σ = σ1 ++ cv -> (∀ i ∈ is, i < σ1.length) -> ∃ σ1', σ1'.length = σ1.length /\ σ' = σ1' ++ cv := by
  induction h with
  | refl => intro σ1 cv e _; exact ⟨σ1, rfl, e⟩
  | @step σ σ' i v hi _ ih =>
    intro σ1 cv e hl
    obtain ⟨s, h1, h2⟩ := ih (σ1 := σ1.set i v) (cv := cv) (by rw [e, List.set_append_left _ _ (hl i hi)]) (fun j hj => by rw [List.length_set]; exact hl j hj)
    exact ⟨s, by rw [h1, List.length_set], h2⟩
theorem names_ok {K : KW} {B : Bs} {F H : Hp} {all : List Nat} : ∀ {is : List Nat} {ds : List D} {vs : List V} {σ : St} {ρ : EnvD} {Q : St -> Hp -> Prop}, Rep K B F σ H ρ -> Rps K F ds vs -> ds.length = is.length -> (∀ i ∈ is, i ∈ all) ->
    (∀ σ', Rep K B F σ' H (setMany is ds ρ) -> SetOf all σ σ' -> Q σ' H) -> gNames is vs σ H Q
  | [], [], _, σ, ρ, Q, r, h, _, _, k => by cases h; exact ⟨rfl, k σ r .refl⟩
  | [], _ :: _, _, _, _, _, _, _, hl, _, _ => by simp at hl
  | _ :: _, [], _, _, _, _, _, _, hl, _, _ => by simp at hl
  | i :: is, d :: ds, _, σ, ρ, Q, r, ⟨v, w, e, h, t⟩, hl, ha, k => by
    subst e
    refine ⟨v, w, rfl, ?_⟩
    exact names_ok (r.setv h) t (by simpa using hl) (fun j hj => ha j (List.mem_cons_of_mem _ hj)) fun σ' r' s' => k σ' r' (.step (ha i List.mem_cons_self) s')
theorem tg_ok {K : KW} {B : Bs} {F H : Hp} {t : Tgt} {d : D} {v : V} {σ : St} {ρ ρ' : EnvD} {Q : St -> Hp -> Prop} (r : Rep K B F σ H ρ) (h : Rp K F d v) (e : asgD t d ρ = some ρ') (k : ∀ σ', Rep K B F σ' H ρ' -> SetOf t.slots σ σ' -> Q σ' H) : tgT K t v σ H Q := by
  cases t with
  | name i => cases e; exact k _ (r.setv h) (.step (List.mem_singleton.mpr rfl) .refl)
  | tup is =>
    cases d with
    | tup ds =>
      have e : (if ds.length = is.length then some (setMany is ds ρ) else none) = some ρ' := e
      split at e
      · rename_i hl
        cases e
        obtain ⟨a, vs, rfl, h1, h2⟩ := h
        exact ⟨a, vs, rfl, .of (r.fh _ _ h1), by rw [<- h2.length]; exact hl, names_ok r h2 hl (fun i hi => hi) k⟩
      · cases e
    | _ => cases e
def Jok (K : KW) (Hb : Hp) (J : It) (F : Hp) (ds : List D) : Prop := ∀ F2 H2, Same F F2 -> Same F2 H2 -> Same Hb H2 -> ∀ i,
  (i < ds.length -> J.go i H2 /\ ∀ x H3, J.yld i H2 x H3 -> ∃ F3 d, Ext F2 H2 F3 H3 /\ ds[i]? = some d /\ Rp K F3 d x) /\ (i = ds.length -> J.stop i H2)
def lI (K : KW) (B : Bs) (hb : Hp -> Hp) (g : EnvD -> Option (List D)) : TI := fun σ H R => ∃ F ρ ds, Rep K B F σ H ρ /\ g ρ = some ds /\ ∀ J F' H', Ext F H F' H' -> Jok K (hb H') J F' ds -> R J H'
def DI (X : Cx) (B : Bs) (hb : Hp -> Hp) (tg iter : Expr) (g : EnvD -> Option (List D)) : Prop := PI X tg iter (lI X.kw B hb g)
def pQ (K : KW) (hb : Hp -> Hp) : Post D := fun _ _ F' H' d v => Rq K F' (hb H') d v
def DQ (X : Cx) (B : Bs) (hb : Hp -> Hp) (e : Expr) (g : EnvD -> Option D) : Prop := PE X e (lG X.kw B (pQ X.kw hb) g)
def HbOk (B : Bs) (hb : Hp -> Hp) : Prop := (∀ H, Same B.H0 H -> Same (hb H) H) /\ ∀ H H', Same H H' -> Same (hb H) (hb H')
theorem hb0 {B : Bs} : HbOk B (fun _ => B.H0) := ⟨fun _ h => h, fun _ _ _ => Same.refl _⟩
theorem hb1 {B : Bs} : HbOk B (fun H => H) := ⟨fun _ _ => Same.refl _, fun _ _ h => h⟩
section
variable {X : Cx} {B : Bs} {hb : Hp -> Hp} {e a b c tg iter : Expr} {es : List Expr} {pos p : Pos} {g ga gb : EnvD -> Option D} {gi : EnvD -> Option (List D)} {gs gbd : SD} {x : Str}
theorem DE.fix (h : DE X B e g) : DQ X B hb e g := pe_imp h fun σ H Q ⟨F, ρ, x, r, hg, k⟩ => ⟨F, ρ, x, r, hg, fun v F' H' e p => k v F' H' e (.inl p)⟩
theorem DR.cur (h : DR X B e g) : DQ X B (fun H => H) e g := h
def itL : D -> Option (List D)
  | .lst ds => some ds
  | .scr ns => some (ns.map D.int)
  | _ => none
theorem rq_items {K : KW} {F Hb : Hp} {d : D} {v : V} {ds : List D} (r : Rq K F Hb d v) (h : itL d = some ds) : ∃ a vs, v = .ref a /\ Rps K F ds vs /\ ∀ F2 H2, Same F F2 -> Same F2 H2 -> Same Hb H2 -> SqL K H2 a vs := by
  cases d with
  | lst es =>
    cases h
    rcases r with ⟨a, vs, rfl, q, t⟩ | ⟨a, vs, ds', e1, rfl, q, t⟩
    · exact ⟨a, vs, rfl, t, fun F2 H2 s1 s2 _ => .of (s2 _ _ (s1 _ _ q))⟩
    · cases e1; exact ⟨a, vs, rfl, t, fun F2 H2 _ _ s3 => .of (s3 _ _ q)⟩
  | scr ns =>
    cases h
    obtain ⟨a, rfl, q⟩ := r.one fun _ h => by cases h
    exact ⟨a, _, rfl, Rps.ints ns, fun F2 H2 s1 s2 _ => s2.seq (s1.seq q)⟩
  | _ => cases h
def gIt (g : EnvD -> Option D) : EnvD -> Option (List D) := fun ρ => (g ρ).bind itL
theorem di_list (hbk : HbOk B hb) (h : DQ X B hb e g) : DI X B hb tg e (gIt g) :=
  pi_imp (pi_list h) fun σ H R ⟨F, ρ, ds, r, hg, k⟩ => by
    unfold gIt at hg
    cases q : g ρ with
    | none => rw [q] at hg; cases hg
    | some d =>
      rw [q] at hg
      refine ⟨F, ρ, d, r, q, fun v F1 H1 e1 p1 => ?_⟩
      obtain ⟨a, vs, rfl, t, sq⟩ := rq_items p1 hg
      have r1 := r.ext e1
      refine ⟨a, rfl, ⟨vs, sq F1 H1 (Same.refl _) e1.fh (hbk.1 H1 r1.ex.hh)⟩, k _ F1 H1 e1 fun F2 H2 s1 s2 s3 i => ⟨fun hi => ?_, fun hi => ?_⟩⟩
      · have hq := sq F2 H2 s1 s2 s3
        have hiv : i < vs.length := by rw [<- t.length]; exact hi
        have hv : vs[i]? = some vs[i] := List.getElem?_eq_getElem hiv
        refine ⟨⟨vs, _, hq, hv⟩, fun x H3 hy => ?_⟩
        obtain ⟨rfl, hy⟩ := hy
        obtain ⟨d', hd, rd⟩ := t.get' (hy vs hq)
        exact ⟨F2, d', .refl s2, hd, rd.mono s1⟩
      · exact ⟨vs, sq F2 H2 s1 s2 s3, by rw [hi, t.length]; exact Nat.le_refl _⟩
def enumD : Nat -> List D -> List D
  | _, [] => []
  | n, d :: ds => .tup [.int n, d] :: enumD (n + 1) ds
theorem enumD_length : ∀ (n : Nat) (ds : List D), (enumD n ds).length = ds.length
  | _, [] => rfl
  | n, _ :: ds => by simp [enumD, enumD_length (n + 1) ds]
theorem enumD_get : ∀ (n : Nat) (ds : List D) (i : Nat) (d : D), ds[i]? = some d -> (enumD n ds)[i]? = some (.tup [.int ((n + i : Nat) : Int), d])
  | _, [], _, _, h => by simp at h
  | n, x :: ds, 0, d, h => by simp at h; subst h; simp [enumD]
  | n, x :: ds, i + 1, d, h => by
    have := enumD_get (n + 1) ds i d (by simpa using h)
    simp only [enumD, List.getElem?_cons_succ, this]
    congr 5
    omega
variable {elts : List Expr} {tk : Nat} {tpos : Pos}
def rngD (lo : Int) : Nat -> List D
  | 0 => []
  | n + 1 => .int lo :: rngD (lo + 1) n
theorem rngD_length : ∀ (lo : Int) (n : Nat), (rngD lo n).length = n
  | _, 0 => rfl
  | lo, n + 1 => by simp [rngD, rngD_length (lo + 1) n]
theorem rngD_get : ∀ (lo : Int) (n i : Nat), i < n -> (rngD lo n)[i]? = some (.int (lo + i))
  | _, 0, _, h => by omega
  | lo, n + 1, 0, _ => by simp [rngD]
  | lo, n + 1, i + 1, h => by
    have := rngD_get (lo + 1) n i (by omega)
    simp only [rngD, List.getElem?_cons_succ, this]
    congr 2
    omega
def BIG : Int := 1000000000000
def gR1 (gs : EnvD -> Option (List D)) : EnvD -> Option (List D) := fun ρ => (gs ρ).bind fun xs => match xs with
  | [.int j] => if -BIG <= j /\ j <= BIG then some (rngD 0 j.toNat) else none
  | _ => none
def gR2 (gs : EnvD -> Option (List D)) : EnvD -> Option (List D) := fun ρ => (gs ρ).bind fun xs => match xs with
  | [.int i, .int j] => if (-BIG <= i /\ i <= BIG) /\ (-BIG <= j /\ j <= BIG) then some (rngD i (j - i).toNat) else none
  | _ => none
theorem jok_rng {K : KW} {Hb F : Hp} (lo : Int) (n : Nat) : Jok K Hb (Itr lo n) F (rngD lo n) := fun F2 H2 s1 s2 s3 i => ⟨fun hi => by
  rw [rngD_length] at hi
  refine ⟨hi, fun x H3 hy => ?_⟩
  obtain ⟨rfl, rfl⟩ := hy
  exact ⟨F2, _, .refl s2, rngD_get lo n i hi, rfl⟩, fun hi => by rw [rngD_length] at hi; exact Nat.le_of_eq hi.symm⟩
theorem di_rng1 (hg : Gl X "range") (hm : X.mg "range" = none) (ha : DRs X B [a] gi) (hs : starEach [a] X.env = [(false, eval a X.env)] := by rfl) : DI X B hb tg (.Call (.Name "range" p) [a] [] pos) (gR1 gi) :=
  pi_imp (pi_range1 hg hm ha hs) fun σ H R ⟨F, ρ, ds, r, hg, k⟩ => by
    unfold gR1 at hg
    cases q : gi ρ with
    | none => rw [q] at hg; cases hg
    | some xs =>
      rw [q] at hg
      refine ⟨F, ρ, xs, r, q, fun vs F1 H1 e1 p1 => ?_⟩
      match xs, hg, p1 with
      | [.int j], hg, p1 =>
        obtain ⟨v, rfl, rv⟩ := pair1 p1
        cases rv.int
        have hg : (if -BIG <= j /\ j <= BIG then some (rngD 0 j.toNat) else none) = some ds := hg
        split at hg
        · rename_i hc
          cases hg
          unfold BIG at hc
          exact ⟨j, rfl, by omega, by omega, k _ F1 H1 e1 (jok_rng 0 _)⟩
        · cases hg
theorem di_rng2 (hg : Gl X "range") (hm : X.mg "range" = none) (ha : DRs X B [a, b] gi) (hs : starEach [a, b] X.env = [(false, eval a X.env), (false, eval b X.env)] := by rfl) (hs2 : starEach [b] X.env = [(false, eval b X.env)] := by rfl) : DI X B hb tg (.Call (.Name "range" p) [a, b] [] pos) (gR2 gi) :=
  pi_imp (pi_range2 hg hm ha hs hs2) fun σ H R ⟨F, ρ, ds, r, hg, k⟩ => by
    unfold gR2 at hg
    cases q : gi ρ with
    | none => rw [q] at hg; cases hg
    | some xs =>
      rw [q] at hg
      refine ⟨F, ρ, xs, r, q, fun vs F1 H1 e1 p1 => ?_⟩
      match xs, hg, p1 with
      | [.int i, .int j], hg, p1 =>
        obtain ⟨v, v', rfl, rv, rv'⟩ := pair2 p1
        cases rv.int
        cases rv'.int
        have hg : (if (-BIG <= i /\ i <= BIG) /\ (-BIG <= j /\ j <= BIG) then some (rngD i (j - i).toNat) else none) = some ds := hg
        split at hg
        · rename_i hc
          cases hg
          unfold BIG at hc
          exact ⟨i, j, rfl, ⟨by omega, by omega, by omega, by omega⟩, k _ F1 H1 e1 (jok_rng i _)⟩
        · cases hg
def forD (t : Tgt) (gb : SD) : List D -> EnvD -> Option Fl
  | [], ρ => some (.next ρ)
  | d :: ds, ρ => (asgD t d ρ).bind fun ρ1 => (gb ρ1).bind fun fl => match fl with
    | .next ρ2 => forD t gb ds ρ2
    | .cont ρ2 => forD t gb ds ρ2
    | .brk ρ2 => some (.next ρ2)
    | .ret o => some (.ret o)
def sFor (t : Tgt) (gi : EnvD -> Option (List D)) (gb : SD) : SD := fun ρ => (gi ρ).bind fun ds => forD t gb ds ρ
theorem ds_for {body : List Stmt} {t : Tgt} (hp : PassesOwn (model X.prog X.w) X.A X.env X.xe) (hc : X.calm = true) (hi : DI X B (fun _ => B.H0) tg iter gi) (hg : PG X tg (tgT X.kw t)) (hb : DSs X B body gbd)
    (hs : ∀ x, foldedSetIterable iter X.env x = pure x := by intro _; rfl) : DS X B (.For tg iter body [] pos) (sFor t gi gbd) :=
  ps_imp (ps_for hp hc hi hg hb hs) fun E σ H ⟨F, ρ, fl, r, hg, k⟩ => by
    unfold sFor at hg
    cases q : gi ρ with
    | none => rw [q] at hg; cases hg
    | some ds =>
      rw [q] at hg
      have hg : forD t gbd ds ρ = some fl := hg
      refine ⟨F, ρ, ds, r, q, fun J F1 H1 e1 jok => ?_⟩
      refine ⟨fun i m σ H => m = ds.length - i /\ i <= ds.length /\ ∃ F2 ρ2, Rep X.kw B F2 σ H ρ2 /\ Same F1 F2 /\ forD t gbd (ds.drop i) ρ2 = some fl, ⟨ds.length, rfl, Nat.zero_le _, F1, ρ, r.ext e1, Same.refl _, hg⟩, ?_⟩
      rintro i m σ2 H2 ⟨rfl, hi, F2, ρ2, r2, s2, h2⟩
      obtain ⟨j1, j2⟩ := jok F2 H2 s2 r2.fh r2.ex.hh i
      by_cases hlt : i < ds.length
      · obtain ⟨go, yl⟩ := j1 hlt
        refine .inr ⟨go, fun σ' H' => ∃ F3 ρ3, Rep X.kw B F3 σ' H' ρ3 /\ Same F1 F3 /\ forD t gbd (ds.drop (i + 1)) ρ3 = some fl, fun σ' H' ⟨F3, ρ3, r3, s3, h3⟩ => ⟨ds.length - (i + 1), by omega, rfl, hlt, F3, ρ3, r3, s3, h3⟩, fun x H3 hy => ?_⟩
        obtain ⟨F3, d, e3, hd, rd⟩ := yl x H3 hy
        have hdd : ds.drop i = d :: ds.drop (i + 1) := by
          rw [List.drop_eq_getElem_cons hlt]
          congr 1
          rw [List.getElem?_eq_getElem hlt] at hd
          exact Option.some.inj hd
        rw [hdd] at h2
        have h2 : ((asgD t d ρ2).bind fun ρ1 => (gbd ρ1).bind fun fl => match fl with
          | .next ρ2 => forD t gbd (ds.drop (i + 1)) ρ2
          | .cont ρ2 => forD t gbd (ds.drop (i + 1)) ρ2
          | .brk ρ2 => some (.next ρ2)
          | .ret o => some (.ret o)) = some fl := h2
        cases q1 : asgD t d ρ2 with
        | none => rw [q1] at h2; cases h2
        | some ρ3 =>
          rw [q1] at h2
          refine tg_ok (r2.ext e3) rd q1 fun σ' r4 _ => ?_
          cases q4 : gbd ρ3 with
          | none => rw [show (some ρ3).bind _ = (gbd ρ3).bind _ from rfl, q4] at h2; cases h2
          | some f1 =>
            rw [show (some ρ3).bind _ = (gbd ρ3).bind _ from rfl, q4] at h2
            refine ⟨F3, ρ3, f1, r4, q4, ?_⟩
            cases f1 with
            | next ρ5 => exact fun σ5 F5 H5 r5 s5 => ⟨F5, ρ5, r5, (s2.trans e3.ff).trans s5, h2⟩
            | cont ρ5 => exact fun σ5 F5 H5 r5 s5 => ⟨F5, ρ5, r5, (s2.trans e3.ff).trans s5, h2⟩
            | brk ρ5 => cases h2; exact fun σ5 F5 H5 r5 s5 => k σ5 F5 H5 r5 (e1.ff.trans ((s2.trans e3.ff).trans s5))
            | ret o => cases h2; exact k
      · have hi' : i = ds.length := by omega
        have hdd : ds.drop i = [] := by rw [hi', List.drop_length]
        rw [hdd] at h2
        cases h2
        exact .inl ⟨j2 hi', k σ2 F2 H2 r2 (e1.ff.trans s2)⟩
def capO : Option (Option En) -> Option En
  | some (some (.val d)) => some (.val d)
  | some (some (.acc ds)) => some (.bor ds)
  | some (some (.bor ds)) => some (.bor ds)
  | some (some (.dct _ kvs)) => some (.dbo kvs)
  | some (some (.dbo kvs)) => some (.dbo kvs)
  | _ => none
def capE (ρ : EnvD) (cap : List (Str × Nat)) : EnvD := cap.map fun p => capO ρ[p.2]?
def compD (t : Tgt) (tc : EnvD -> Option Bool) (ge : EnvD -> Option D) (ρ0 : EnvD) : List D -> Option (List D)
  | [] => some []
  | d :: ds => (asgD t d ρ0).bind fun ρ1 => (tc ρ1).bind fun b => if b then (ge ρ1).bind fun y => (compD t tc ge ρ0 ds).map (y :: ·) else compD t tc ge ρ0 ds
def gComp (own : List Str) (cap : List (Str × Nat)) (t : Tgt) (tc : EnvD -> Option Bool) (ge : EnvD -> Option D) (gi : EnvD -> Option (List D)) : EnvD -> Option (List D) := fun ρ =>
  (gi ρ).bind fun ds => if ds.length <= TOP then compD t tc ge (List.replicate own.length none ++ capE ρ cap) ds else none
def tYes : EnvD -> Option Bool := fun _ => some true
theorem yes_ok {K : KW} {B : Bs} {σ : St} {H : Hp} {Q : Bool -> Hp -> Prop} (h : lT K B tYes σ H Q) : tTrue σ H Q := by
  obtain ⟨F, ρ, b, r, hg, k⟩ := h
  cases hg
  exact k F H (.refl r.fh)
theorem pifs_imp {X : Cx} {ifs : List Expr} {t t' : TT} (h : PIfs X ifs t) (k : ∀ σ H Q, t' σ H Q -> t σ H Q) : PIfs X ifs t' := fun pins s σ H Q I q => h pins s σ H Q I (k σ H Q q)
def DIfs (X : Cx) (B : Bs) (ifs : List Expr) (g : EnvD -> Option Bool) : Prop := PIfs X ifs (lT X.kw B g)
theorem difs_nil : DIfs X B [] tYes := pifs_imp pifs_nil fun σ H Q h => yes_ok h
theorem difs_one {tc : EnvD -> Option Bool} (h : DT X B c tc) : DIfs X B [c] tc := pifs_one h
theorem cap_rep {K : KW} {B : Bs} {F F1 H H1 : Hp} {σ σ1 : St} {ρ : EnvD} {own : List Str} {cap : List (Str × Nat)} (r : Rep K B F σ H ρ) (e : Ext F H F1 H1) {F2 H2 : Hp} (e2 : Ext F1 H1 F2 H2) (hl : σ1.length = own.length) :
    Rep K ⟨F1, H1⟩ F2 (σ1 ++ cap.map fun p => (σ[p.2]?).getD none) H2 (List.replicate own.length none ++ capE ρ cap) := by
  have noown : ∀ i y, (List.replicate own.length none ++ capE ρ cap)[i]? = some (some y) -> ∃ p, cap[i - own.length]? = some p /\ own.length <= i /\ ((∃ d, y = .val d /\ ρ[p.2]? = some (some (.val d))) ∨ (∃ ds, y = .bor ds /\ ρ[p.2]? = some (some (.acc ds))) ∨ (∃ ds, y = .bor ds /\ ρ[p.2]? = some (some (.bor ds))) ∨ (∃ kvs, y = .dbo kvs /\ ∃ oa, ρ[p.2]? = some (some (.dct oa kvs))) ∨ ∃ kvs, y = .dbo kvs /\ ρ[p.2]? = some (some (.dbo kvs))) := by
    intro i y h
    by_cases hi : i < own.length
    · rw [List.getElem?_append_left (by simpa using hi), List.getElem?_replicate, if_pos hi] at h
      cases h
    · rw [List.getElem?_append_right (by simpa using hi), List.length_replicate] at h
      unfold capE at h
      rw [List.getElem?_map] at h
      cases q : cap[i - own.length]? with
      | none => rw [q] at h; cases h
      | some p =>
        rw [q] at h
        replace h : capO ρ[p.2]? = some y := Option.some.inj h
        refine ⟨p, rfl, by omega, ?_⟩
        unfold capO at h
        split at h
        · rename_i d q2; cases h; exact .inl ⟨d, rfl, q2⟩
        · rename_i ds q2; cases h; exact .inr (.inl ⟨ds, rfl, q2⟩)
        · rename_i ds q2; cases h; exact .inr (.inr (.inl ⟨ds, rfl, q2⟩))
        · rename_i oa ds q2; cases h; exact .inr (.inr (.inr (.inl ⟨ds, rfl, oa, q2⟩)))
        · rename_i ds q2; cases h; exact .inr (.inr (.inr (.inr ⟨ds, rfl, q2⟩)))
        · cases h
  refine ⟨e2, by simp [capE, hl], fun i y h => ?_, fun i j y z v w h1 h2 _ _ _ a ha _ => ?_⟩
  · obtain ⟨p, hp, hi, hy⟩ := noown i y h
    have slot : ∀ v, σ[p.2]? = some (some v) -> (σ1 ++ cap.map fun p => (σ[p.2]?).getD none)[i]? = some (some v) := fun v hv => by
      rw [List.getElem?_append_right (by rw [hl]; exact hi), hl, List.getElem?_map, hp]
      show some ((σ[p.2]?).getD none) = _
      rw [hv]; rfl
    rcases hy with ⟨d, rfl, q⟩ | ⟨ds, rfl, q⟩ | ⟨ds, rfl, q⟩ | ⟨ds, rfl, oa, q⟩ | ⟨ds, rfl, q⟩
    · obtain ⟨v, hv, h2⟩ := r.ents _ _ q
      exact ⟨v, slot v hv, Rp.mono (e.ff.trans e2.ff) h2⟩
    · obtain ⟨v, hv, a, vs, e1, g1, g2, g3, g4⟩ := r.ents _ _ q
      exact ⟨v, slot v hv, a, vs, e1, e.hh _ _ g1, g4.mono (e.ff.trans e2.ff)⟩
    · obtain ⟨v, hv, a, vs, e1, g1, g4⟩ := r.ents _ _ q
      exact ⟨v, slot v hv, a, vs, e1, e.hh _ _ (r.ex.hh _ _ g1), g4.mono (e.ff.trans e2.ff)⟩
    · obtain ⟨v, hv, a, ob, vs, e1, g1, g2, g3, g4, g5⟩ := r.ents _ _ q
      exact ⟨v, slot v hv, a, ob, vs, e1, e.hh _ _ g1, g4.mono (e.ff.trans e2.ff)⟩
    · obtain ⟨v, hv, a, ob, vs, e1, g1, g4⟩ := r.ents _ _ q
      exact ⟨v, slot v hv, a, ob, vs, e1, e.hh _ _ (r.ex.hh _ _ g1), g4.mono (e.ff.trans e2.ff)⟩
  · obtain ⟨p, _, _, hy⟩ := noown i y h1
    rcases hy with ⟨d, rfl, q⟩ | ⟨ds, rfl, q⟩ | ⟨ds, rfl, q⟩ | ⟨ds, rfl, oa, q⟩ | ⟨ds, rfl, q⟩ <;> cases ha
theorem da_comp {elt : Expr} {ifs : List Expr} {scope : Scope} {own : List Str} {cap : List (Str × Nat)} {t : Tgt} {tc : EnvD -> Option Bool} {ge : EnvD -> Option D} (hc : X.calm = true) (S : CompScope X scope own cap) (hi : DI X B (fun H => H) tg iter gi) (ht : ∀ i ∈ t.slots, i < own.length)
    (hin : ∀ (B' : Bs) C s₀ H₀ fp pn, PG (cxc X scope C (own ++ cap.map (·.1)) s₀ H₀ fp pn) tg (tgT X.kw t) /\ DIfs (cxc X scope C (own ++ cap.map (·.1)) s₀ H₀ fp pn) B' ifs tc /\ DE (cxc X scope C (own ++ cap.map (·.1)) s₀ H₀ fp pn) B' elt ge)
    (hs : ∀ x, foldedSetIterable iter X.env x = pure x := by intro _; rfl) :
    DA X B (.ListComp elt [⟨tg, iter, ifs, 0⟩] scope pos) (gComp own cap t tc ge gi) := by
  refine pe_imp (pe_lc (tc := fun σ H Q => ∃ B', lT X.kw B' tc σ H Q) (te := fun σ H Q => ∃ B', lG X.kw B' (pE X.kw) ge σ H Q) hc S hi (fun C s₀ H₀ fp pn => ⟨(hin ⟨H₀, H₀⟩ C s₀ H₀ fp pn).1, fun pins s σ H Q I ⟨B', q⟩ => (hin B' C s₀ H₀ fp pn).2.1 pins s σ H Q I q, fun pins s σ H Q I ⟨B', q⟩ => (hin B' C s₀ H₀ fp pn).2.2 pins s σ H Q I q⟩) hs) ?_
  intro σ H Q ⟨F, ρ, out, r, hg, k⟩
  unfold gComp at hg
  cases q : gi ρ with
  | none => rw [q] at hg; cases hg
  | some ds =>
    rw [q] at hg
    have hg : (if ds.length <= TOP then compD t tc ge (List.replicate own.length none ++ capE ρ cap) ds else none) = some out := hg
    split at hg
    · rename_i htop
      refine ⟨F, ρ, ds, r, q, fun J F1 H1 e1 jok => ?_⟩
      refine ⟨fun i m ys H2 => m = ds.length - i /\ i <= ds.length /\ ∃ F2 o1 o2, Ext F1 H1 F2 H2 /\ Rps X.kw F2 o1 ys /\ o1.length <= i /\ compD t tc ge (List.replicate own.length none ++ capE ρ cap) (ds.drop i) = some o2 /\ out = o1 ++ o2,
        ⟨ds.length, rfl, Nat.zero_le _, F1, [], out, .refl e1.fh, rfl, Nat.le_refl _, hg, rfl⟩, ?_⟩
      rintro i m ys H2 ⟨rfl, hi, F2, o1, o2, e2, ry, hl1, h2, rfl⟩
      refine ⟨top_line (by rw [<- ry.length]; omega), ?_⟩
      obtain ⟨j1, j2⟩ := jok F2 H2 e2.ff e2.fh e2.hh i
      by_cases hlt : i < ds.length
      · obtain ⟨go, yl⟩ := j1 hlt
        refine .inr ⟨go, fun ys' H' => ∃ F3 p1 p2, Ext F1 H1 F3 H' /\ Rps X.kw F3 p1 ys' /\ p1.length <= i + 1 /\ compD t tc ge (List.replicate own.length none ++ capE ρ cap) (ds.drop (i + 1)) = some p2 /\ o1 ++ o2 = p1 ++ p2, fun ys' H' ⟨F3, p1, p2, e3, r3, l3, h3, eo⟩ => ⟨ds.length - (i + 1), by omega, rfl, hlt, F3, p1, p2, e3, r3, l3, h3, eo⟩, fun x H3 hy σ1 hσ => ?_⟩
        obtain ⟨F3, d, e3, hd, rd⟩ := yl x H3 hy
        have hdd : ds.drop i = d :: ds.drop (i + 1) := by
          rw [List.drop_eq_getElem_cons hlt]
          congr 1
          rw [List.getElem?_eq_getElem hlt] at hd
          exact Option.some.inj hd
        rw [hdd] at h2
        simp only [compD] at h2
        cases q1 : asgD t d (List.replicate own.length none ++ capE ρ cap) with
        | none => rw [q1] at h2; cases h2
        | some ρ1 =>
          rw [q1] at h2
          have e13 := e2.trans e3
          refine tg_ok (cap_rep (own := own) (cap := cap) r e1 e13 hσ) rd q1 fun σ' r4 so => ⟨?_, ?_⟩
          · obtain ⟨σ1', l1, e4⟩ := so.pre (σ1 := σ1) rfl (fun j hj => by rw [hσ]; exact ht j hj)
            exact ⟨σ1', by rw [l1, hσ], e4⟩
          · have h2 : ((tc ρ1).bind fun b => if b then (ge ρ1).bind fun y => (compD t tc ge (List.replicate own.length none ++ capE ρ cap) (ds.drop (i + 1))).map (y :: ·) else compD t tc ge (List.replicate own.length none ++ capE ρ cap) (ds.drop (i + 1))) = some o2 := h2
            cases q2 : tc ρ1 with
            | none => rw [q2] at h2; cases h2
            | some bb =>
              rw [q2] at h2
              refine ⟨⟨F1, H1⟩, F3, ρ1, bb, r4, q2, fun F5 H5 e5 => ?_⟩
              cases bb with
              | false => exact iteF ⟨F5, o1, o2, e13.trans e5, ry.mono (e3.ff.trans e5.ff), by omega, h2, rfl⟩
              | true =>
                have h2 : ((ge ρ1).bind fun y => (compD t tc ge (List.replicate own.length none ++ capE ρ cap) (ds.drop (i + 1))).map (y :: ·)) = some o2 := h2
                cases q3 : ge ρ1 with
                | none => rw [q3] at h2; cases h2
                | some y =>
                  rw [q3] at h2
                  have h2 : (compD t tc ge (List.replicate own.length none ++ capE ρ cap) (ds.drop (i + 1))).map (y :: ·) = some o2 := h2
                  cases q4 : compD t tc ge (List.replicate own.length none ++ capE ρ cap) (ds.drop (i + 1)) with
                  | none => rw [q4] at h2; cases h2
                  | some p2 =>
                    rw [q4] at h2
                    cases h2
                    refine iteT ⟨⟨F1, H1⟩, F5, ρ1, y, r4.ext e5, q3, fun v F6 H6 e6 p6 => ?_⟩
                    exact ⟨F6, o1 ++ [y], p2, e13.trans (e5.trans e6), (ry.mono (e3.ff.trans (e5.ff.trans e6.ff))).snoc p6, by simp; omega, rfl, by simp⟩
      · have hi' : i = ds.length := by omega
        have hdd : ds.drop i = [] := by rw [hi', List.drop_length]
        rw [hdd] at h2
        cases h2
        refine .inl ⟨j2 hi', fun D hD => ?_⟩
        have e := e1.trans e2
        exact k _ F2 _ (e.trans (.new e.fh hD)) ⟨D, ys, rfl, e.hh.free hD, upd_same, e.fh.free hD, by simpa using ry⟩
    · cases hg
end
def stE (N : List Str) (xs : List (Option En)) : EnvD := xs ++ List.replicate (N.length - xs.length) none
def outO : Option Fl -> Option En
  | some (.next _) => some (.val .non)
  | some (.ret o) => some o
  | _ => none
def mir (N : List Str) (g : SD) : List En -> Option En := fun xs => outO (g (stE N (xs.map some)))
section
variable {P : Program} {w : World} {K : PySem.W.Frag} {mg : Str -> Option Value} {base : Heap}
theorem paired_get {α β : Type} {R : α -> β -> Prop} : ∀ {l : List α} {r : List β} {i : Nat} {x : α}, Paired R l r -> l[i]? = some x -> ∃ y, r[i]? = some y /\ R x y
  | _, _, _, _, .nil, e => by simp at e
  | _, _, 0, _, .cons r _, e => by simp at e; subst e; exact ⟨_, rfl, r⟩
  | _, _, i + 1, x, .cons _ t, e => by
    obtain ⟨u, h1, h2⟩ := paired_get (i := i) t (by simpa using e)
    exact ⟨u, by simpa using h1, h2⟩
theorem start_rep {F H : Hp} {N ps : List Str} {xs : List En} {vs : List V} (fh : Same F H) (hp : Paired (fun x v => ArgE ⟨K, w⟩ F H x v) xs vs) : Rep ⟨K, w⟩ ⟨F, H⟩ F (L2.start N vs) H (stE N (xs.map some)) := by
  have hl := paired_len hp
  have at' : ∀ (i : Nat) y, (stE N (xs.map some))[i]? = some (some y) -> xs[i]? = some y := fun i y h => by
    unfold stE at h
    by_cases hi : i < xs.length
    · rw [List.getElem?_append_left (by simpa using hi), List.getElem?_map] at h
      cases q : xs[i]? with
      | none => rw [q] at h; cases h
      | some z => rw [q] at h; cases h; rfl
    · rw [List.getElem?_append_right (by simpa using hi), List.getElem?_replicate] at h
      split at h <;> cases h
  refine ⟨.refl fh, ?_, fun i y h => ?_, fun i j y z v w h1 h2 _ _ _ a ha _ => ?_⟩
  · unfold L2.start stE
    simp [hl]
  · have hx := at' i y h
    obtain ⟨v, hv, r⟩ := paired_get hp hx
    refine ⟨v, ?_, ?_⟩
    · unfold L2.start
      rw [List.getElem?_append_left (by simpa using (List.getElem?_eq_some_iff.mp hv).1), List.getElem?_map, hv]; rfl
    · cases y with
      | val d => exact r
      | bor ds => exact r
      | acc ds => exact r.elim
      | oac a dx C fs ds => exact r.elim
      | tre t => exact r.elim
      | dct oa kvs => exact r.elim
      | dbo kvs => exact r
  · have hx := at' i y h1
    obtain ⟨u, _, r⟩ := paired_get hp hx
    cases y with
    | val d => cases ha
    | bor ds => cases ha
    | acc ds => exact r.elim
    | oac a dx C fs ds => exact r.elim
    | tre t => exact r.elim
    | dct oa kvs => exact r.elim
    | dbo kvs => cases ha
theorem fn_pure {x qual : Str} {st : Stmt} {f : Addr} {fd : FuncData} {N ps : List Str} {k : Nat} {g : SD} (F : Fun K x qual st f fd) (S : FnScope N ps (defScope st))
    (hb : ∀ (cdv : Value) (A : Around) (outer : List Env) (s : Shared) (H : Hp) (E : XK) (B : Bs), Room k (A.deeper (envOfC qual (defScope st) s.heap.objs.size f cdv)) ->
      DSs (cxOf CX0 P w K mg base N qual (defScope st) f cdv A outer s H E).nox B (defBody st) g) :
    FnOk P w K mg base CX0 (k + 1) f fd ps (pSp ⟨K, w⟩ ps.length (len? ps.length (mir N g))) := by
  refine F.ok S (fun vs H Q E h => ?_) (fun cdv A outer s H vs Q E hr h => ?_)
  · obtain ⟨F, xs, o, _, hl, hp, _⟩ := h
    rw [<- paired_len hp]; exact hl
  · obtain ⟨F0, xs, o, fh, hl, hp, hm, k⟩ := h
    refine ⟨_, hb cdv A outer s H E ⟨F0, H⟩ hr, ?_⟩
    have hm : mir N g xs = some o := by
      unfold len? at hm
      rw [if_pos hl] at hm
      exact hm
    unfold mir at hm
    cases q : g (stE N (xs.map some)) with
    | none => rw [q] at hm; cases hm
    | some fl =>
      rw [q] at hm
      refine ⟨F0, _, fl, start_rep (ps := ps) fh hp, q, ?_⟩
      cases fl with
      | next ρ => cases hm; exact fun σ' F' H' r s => k .non F' H' r.ex rfl
      | ret o' => cases hm; exact fun v F' H' e p => k v F' H' e p
      | brk ρ => cases hm
      | cont ρ => cases hm
end
section
variable {X : Cx} {B : Bs} {e a b c o : Expr} {es : List Expr} {pos p apos : Pos} {g : EnvD -> Option D} {gxs : EnvD -> Option (List En)} {x mm : Str} {C : Addr} {n k : Nat} {m : List En -> Option En}
def fNeg : D -> Option D
  | .int i => some (.int (-i))
  | _ => none
def gNeg (g : EnvD -> Option D) : EnvD -> Option D := fun ρ => (g ρ).bind fNeg
theorem de_neg (ha : DR X B a g) : DE X B (.UnaryOp .USub a pos) (gNeg g) :=
  pe_imp (pe_un un_neg ha) fun σ H Q ⟨F, ρ, d, r, hg, k⟩ => by
    unfold gNeg at hg
    cases q : g ρ with
    | none => rw [q] at hg; cases hg
    | some y =>
      rw [q] at hg
      cases y with
      | int i => cases hg; exact ⟨F, ρ, _, r, q, fun v F1 H1 e1 p1 => ⟨i, p1.int, k _ F1 H1 e1 rfl⟩⟩
      | _ => cases hg
structure Fx (P : Program) (w : World) (K : PySem.W.Frag) (mg : Str -> Option Value) (base : Heap) (x : Str) (k n : Nat) (m : List En -> Option En) : Prop where
  ex : ∃ f fd ps, FnOk P w K mg base CX0 k f fd ps (pSp ⟨K, w⟩ n (len? n m)) /\ mg x = some (.ref f) /\ PySem.W.keepIn K (.ref f) = true /\ Binds K fd ps []
structure Mx (P : Program) (w : World) (K : PySem.W.Frag) (mg : Str -> Option Value) (base : Heap) (C : Addr) (x : Str) (k n : Nat) (m : List En -> Option En) : Prop where
  ex : ∃ f fd ps, FnOk P w K mg base CX0 k f fd ps (pSp ⟨K, w⟩ n (len? n m)) /\ Meth K C x f /\ Binds K fd ps []
structure Kx (P : Program) (w : World) (K : PySem.W.Frag) (mg : Str -> Option Value) (base : Heap) (C : Addr) (x : Str) (k n : Nat) (mi : List En -> Option (List Str × List D)) : Prop where
  ex : ∃ f fd ps mi', FnOk P w K mg base CX0 k f fd ps (iSp ⟨K, w⟩ C n mi') /\ Mk K C f /\ mg x = some (.ref C) /\ Binds K fd ps [] /\ ∀ a dx xs, mi' a dx xs = mi xs
theorem de_callF (h : Fx X.prog X.w X.kw X.mg X.base x k n m) (hr : Room k X.A) (hg : Gl X x) (ha : DNs X B (e :: es) gxs) (hdb : (x == ("__debug__" : Str)) = false := by decide +kernel)
    (he : starEach (e :: es) X.env = (false, eval e X.env) :: starEach es X.env := by rfl) (hpl : (backTo pos (starEach es X.env)).any (·.1) = false := by rfl) : DE X B (.Call (.Name x p) (e :: es) [] pos) (gCall (len? n m) frzO gxs) := by
  obtain ⟨f, fd, ps, F, hm, hk, hb⟩ := h.ex
  exact de_call F hr hg hm hk hb ha hdb he hpl
theorem da_callF (h : Fx X.prog X.w X.kw X.mg X.base x k n m) (hr : Room k X.A) (hg : Gl X x) (ha : DNs X B (e :: es) gxs) (hdb : (x == ("__debug__" : Str)) = false := by decide +kernel)
    (he : starEach (e :: es) X.env = (false, eval e X.env) :: starEach es X.env := by rfl) (hpl : (backTo pos (starEach es X.env)).any (·.1) = false := by rfl) : DA X B (.Call (.Name x p) (e :: es) [] pos) (gCall (len? n m) accO gxs) := by
  obtain ⟨f, fd, ps, F, hm, hk, hb⟩ := h.ex
  exact da_call F hr hg hm hk hb ha hdb he hpl
theorem de_len {gs : EnvD -> Option (List D)} (hg : Gl X "len") (hm : X.mg "len" = none) (ha : DRs X B [a] gs) (he : starEach [a] X.env = (false, eval a X.env) :: starEach [] X.env := by rfl) (hpl : (backTo pos (starEach [] X.env)).any (·.1) = false := by rfl) :
    DE X B (.Call (.Name "len" p) [a] [] pos) (gB fLen gs) := de_callB call_len ok_len hg hm (by decide +kernel) ha (by decide) (by decide) he hpl
theorem de_max {gs : EnvD -> Option (List D)} (hc : X.calm = true) (hg : Gl X "max") (hm : X.mg "max" = none) (ha : DRs X B [a, b] gs) (he : starEach [a, b] X.env = (false, eval a X.env) :: starEach [b] X.env := by rfl) (hpl : (backTo pos (starEach [b] X.env)).any (·.1) = false := by rfl) :
    DE X B (.Call (.Name "max" p) [a, b] [] pos) (gB fMax gs) := de_callB (call_max2 hc) ok_max hg hm (by decide +kernel) ha (by decide) (by decide) he hpl
theorem de_min {gs : EnvD -> Option (List D)} (hc : X.calm = true) (hg : Gl X "min") (hm : X.mg "min" = none) (ha : DRs X B [a, b] gs) (he : starEach [a, b] X.env = (false, eval a X.env) :: starEach [b] X.env := by rfl) (hpl : (backTo pos (starEach [b] X.env)).any (·.1) = false := by rfl) :
    DE X B (.Call (.Name "min" p) [a, b] [] pos) (gB fMin gs) := de_callB (call_min2 hc) ok_min hg hm (by decide +kernel) ha (by decide) (by decide) he hpl
theorem de_all {gs : EnvD -> Option (List D)} (hc : X.calm = true) (hg : Gl X "all") (hm : X.mg "all" = none) (ha : DRs X B [a] gs) (he : starEach [a] X.env = (false, eval a X.env) :: starEach [] X.env := by rfl) (hpl : (backTo pos (starEach [] X.env)).any (·.1) = false := by rfl) :
    DE X B (.Call (.Name "all" p) [a] [] pos) (gB fAll gs) := de_callB (call_allL hc) ok_all hg hm (by decide +kernel) ha (by decide) (by decide) he hpl
theorem kitT {K : PySem.W.Frag} (T : String) (hT : T ∈ ["bool", "int", "str", "list", "tuple", "dict"]) : ∀ t b, subT t T = some b -> PySem.W.kitOne K (.type t) (.type T) = some b := by
  intro t b h
  unfold subT at h
  by_cases h1 : t = T
  · rw [if_pos h1] at h
    cases h
    subst h1
    unfold PySem.W.kitOne
    rw [if_pos (beq_self_eq_true _)]
  · rw [if_neg h1] at h
    by_cases h2 : t = "bool" /\ T = "int"
    · rw [if_pos h2] at h
      cases h
      obtain ⟨rfl, rfl⟩ := h2
      rfl
    · rw [if_neg h2] at h
      by_cases h3 : (t ∈ ["NoneType", "bool", "int", "str", "list", "tuple", "dict"]) /\ (T ∈ ["bool", "int", "str", "list", "tuple", "dict"])
      · rw [if_pos h3] at h
        cases h
        obtain ⟨m1, m2⟩ := h3
        simp only [List.mem_cons, List.not_mem_nil, or_false] at m1 m2
        rcases m1 with rfl | rfl | rfl | rfl | rfl | rfl | rfl <;> rcases m2 with rfl | rfl | rfl | rfl | rfl | rfl <;> first | rfl | exact absurd rfl h1 | exact absurd ⟨rfl, rfl⟩ h2
      · rw [if_neg h3] at h; cases h
def ckFree (sc : List (Str × NameKind)) (y : Str × NameKind) : Bool := y.2 != .free || sc.lookup y.1 == some .cell || sc.lookup y.1 == some .free
def ckComp (names sc : List (Str × NameKind)) (N : List Str) (cap : List (Str × Nat)) : Bool :=
  names.all (fun y => y.2 != .cell) && names.all (fun y => y.2 != .local || names.lookup y.1 == some .local) && names.all (ckFree sc) && cap.all (fun p => names.lookup p.1 == some .free && N[p.2]? == some p.1)
theorem comp_scope {scope : Scope} {own : List Str} {cap : List (Str × Nat)} {sc : List (Str × NameKind)} {N : List Str} (hk : scope.kind = .function) (h1 : X.env.scope.names = sc) (h2 : X.N = N) (h : ckComp scope.names sc N cap = true) : CompScope X scope own cap := by
  subst h1 h2
  unfold ckComp at h
  simp only [Bool.and_eq_true, List.all_eq_true] at h
  obtain ⟨⟨⟨a1, a2⟩, a3⟩, a4⟩ := h
  refine ⟨hk, fun y hy e => ?_, fun y hy e => ?_, fun y hy e => ?_, fun p hp => ?_⟩
  · have := a1 y hy; rw [e] at this; cases this
  · have := a2 y hy; rw [e] at this; simpa using this
  · have := a3 y hy
    unfold ckFree at this
    rw [e] at this
    have q : List.lookup y.fst X.env.scope.names = some NameKind.cell ∨ List.lookup y.fst X.env.scope.names = some NameKind.free := by simpa using this
    exact q
  · have := a4 p hp
    simpa using this
end
def thenB (o : Option Fl) (g : SD) : Option Fl := o.bind fun fl => match fl with | .next ρ' => g ρ' | fl => some fl
def loopB (o : Option Fl) (k : EnvD -> Option Fl) : Option Fl := o.bind fun fl => match fl with | .next ρ2 => k ρ2 | .cont ρ2 => k ρ2 | .brk ρ2 => some (.next ρ2) | .ret o => some (.ret o)
section
variable {ρ : EnvD} {i k n : Nat} {d x y : D} {ds es : List D} {a b j : Int} {α γ : Type} {ga gb gc' g : EnvD -> Option D} {ta tb : EnvD -> Option Bool} {gs : EnvD -> Option (List D)} {s1 s2 : SD}
@[simp] theorem ev_gc : gc d ρ = some d := rfl
@[simp] theorem ev_gv : gv i ρ = match ρ[i]? with | some (some (.val d)) => some d | _ => none := rfl
@[simp] theorem ev_gr : gr i ρ = match ρ[i]? with | some (some (.val d)) => some d | some (some (.acc ds)) => some (.lst ds) | some (some (.bor ds)) => some (.lst ds) | _ => none := rfl
@[simp] theorem ev_gn : gn i ρ = match ρ[i]? with | some (some (.val d)) => some (.val d) | some (some (.acc ds)) => some (.bor ds) | some (some (.bor ds)) => some (.bor ds) | some (some (.dct _ kvs)) => some (.dbo kvs) | some (some (.dbo kvs)) => some (.dbo kvs) | _ => none := rfl
@[simp] theorem ev_gFz : gFz gs ρ = (gs ρ).map D.lst := rfl
@[simp] theorem ev_g2 {f : D -> D -> Option γ} : g2 f ga gb ρ = (ga ρ).bind fun x => (gb ρ).bind fun y => f x y := rfl
@[simp] theorem ev_g3 {f f' : D -> D -> Option D} : g3 f f' ga gb gc' ρ = (ga ρ).bind fun x => (gb ρ).bind fun y => ((f x y).bind asB).bind fun k => if k then (gc' ρ).bind fun z => f' y z else some (.bl false) := rfl
@[simp] theorem ev_gt : gt g ρ = (g ρ).bind truD := rfl
@[simp] theorem ev_gb : gb' g ρ = (g ρ).bind asB := rfl
@[simp] theorem ev_gAnd : gAnd ta tb ρ = (ta ρ).bind fun x => if x then tb ρ else some false := rfl
@[simp] theorem ev_gOr : gOr ta tb ρ = (ta ρ).bind fun x => if x then some true else tb ρ := rfl
@[simp] theorem ev_gNot : gNot ta ρ = (ta ρ).map fun x => !x := rfl
@[simp] theorem ev_gAndV : gAndV ga gb ρ = ((ga ρ).bind asB).bind fun x => if x then gb ρ else some (.bl false) := rfl
@[simp] theorem ev_gOrV : gOrV ga gb ρ = ((ga ρ).bind asB).bind fun x => if x then some (.bl true) else gb ρ := rfl
@[simp] theorem ev_gNil : gNil ρ = some [] := rfl
@[simp] theorem ev_gCons : gCons' g gs ρ = (g ρ).bind fun d => (gs ρ).bind fun ds => some (d :: ds) := rfl
@[simp] theorem ev_gTup : gTup' gs ρ = (gs ρ).bind fun ds => if ds.length <= TOP then some (.tup ds) else none := rfl
@[simp] theorem ev_gLst : gLst gs ρ = (gs ρ).bind fun ds => if ds.length <= TOP then some ds else none := rfl
@[simp] theorem ev_gB {f : List D -> Option γ} : gB f gs ρ = (gs ρ).bind f := rfl
@[simp] theorem ev_nNil : nNil ρ = some [] := rfl
@[simp] theorem ev_nCons {g : EnvD -> Option En} {gs : EnvD -> Option (List En)} : nCons g gs ρ = (g ρ).bind fun d => (gs ρ).bind fun ds => some (d :: ds) := rfl
@[simp] theorem ev_gVal : gVal g ρ = (g ρ).map En.val := rfl
@[simp] theorem ev_gIs {T : String} : gIs T g ρ = (g ρ).bind fun d => (tyD d).bind fun t => (subT t T).map D.bl := rfl
@[simp] theorem ev_gNone : gNone ρ = some none := rfl
@[simp] theorem ev_gSome : gSome g ρ = (g ρ).bind fun d => (asI d).map some := rfl
@[simp] theorem ev_gNeg : gNeg g ρ = (g ρ).bind fNeg := rfl
@[simp] theorem ev_gIt : gIt g ρ = (g ρ).bind itL := rfl
@[simp] theorem ev_gSl {gl gh : EnvD -> Option (Option Int)} : gSl g gl gh ρ = (g ρ).bind fun d => (gl ρ).bind fun l => (gh ρ).bind fun h => match d with | .lst ds => some (cutD ds l h) | _ => none := rfl
@[simp] theorem ev_fNeg : fNeg (.int a) = some (.int (-a)) := rfl
@[simp] theorem ev_itL : itL (.lst ds) = some ds := rfl
@[simp] theorem ev_asI : asI (.int a) = some a := rfl
@[simp] theorem ev_asB {b : Bool} : asB (.bl b) = some b := rfl
@[simp] theorem ev_gCall {m : List En -> Option En} {f : En -> Option α} {gs : EnvD -> Option (List En)} : gCall m f gs ρ = ((gs ρ).bind m).bind f := rfl
@[simp] theorem ev_len {m : List En -> Option En} {xs : List En} : len? n m xs = if xs.length = n then m xs else none := rfl
@[simp] theorem ev_frzV : frzO (.val d) = some d := rfl
@[simp] theorem ev_frzA : frzO (.acc ds) = some (.lst ds) := rfl
@[simp] theorem ev_frzB : frzO (.bor ds) = none := rfl
@[simp] theorem ev_frzC {p q C : Addr} {fs : List Str} : frzO (.oac p q C fs ds) = none := rfl
@[simp] theorem ev_frzT {t : OT} : frzO (.tre t) = some t.erase := rfl
@[simp] theorem ev_accT {t : OT} : accO (.tre t) = none := rfl
@[simp] theorem ev_accV : accO (.val d) = none := rfl
@[simp] theorem ev_accB : accO (.bor ds) = none := rfl
@[simp] theorem ev_accA : accO (.acc ds) = some ds := rfl
@[simp] theorem ev_gR1 : gR1 gs ρ = (gs ρ).bind fun xs => match xs with | [.int j] => if -BIG <= j /\ j <= BIG then some (rngD 0 j.toNat) else none | _ => none := rfl
@[simp] theorem ev_gR2 : gR2 gs ρ = (gs ρ).bind fun xs => match xs with | [.int i, .int j] => if (-BIG <= i /\ i <= BIG) /\ (-BIG <= j /\ j <= BIG) then some (rngD i (j - i).toNat) else none | _ => none := rfl
@[simp] theorem ev_gComp {own : List Str} {cap : List (Str × Nat)} {t : Tgt} {tc : EnvD -> Option Bool} {ge : EnvD -> Option D} {gi : EnvD -> Option (List D)} : gComp own cap t tc ge gi ρ = (gi ρ).bind fun ds => if ds.length <= TOP then compD t tc ge (List.replicate own.length none ++ capE ρ cap) ds else none := rfl
@[simp] theorem ev_capE {cap : List (Str × Nat)} : capE ρ cap = cap.map fun p => capO ρ[p.2]? := rfl
@[simp] theorem ev_tYes : tYes ρ = some true := rfl
@[simp] theorem ev_fSub : fSub (.int a) (.int b) = some (.int (a - b)) := rfl
theorem ev_fMul : fMul (.int a) (.int b) = if (decide (-LIM < a) && decide (a < LIM)) || (decide (-LIM < b) && decide (b < LIM)) then some (.int (a * b)) else none := rfl
theorem mul_l (h1 : -LIM < a) (h2 : a < LIM) : fMul (.int a) (.int b) = some (.int (a * b)) := by rw [ev_fMul, if_pos (by simp [h1, h2])]
theorem mul_r (h1 : -LIM < b) (h2 : b < LIM) : fMul (.int a) (.int b) = some (.int (a * b)) := by rw [ev_fMul, if_pos (by simp [h1, h2])]
theorem ev_fDiv : fDiv (.int a) (.int b) = if decide (0 < b) && decide (b < 1073741824) then some (.int (a / b)) else none := rfl
theorem ev_fMod : fMod (.int a) (.int b) = if decide (0 < b) then some (.int (a % b)) else none := rfl
theorem div_ok (h1 : 0 < b) (h2 : b < 1073741824) : fDiv (.int a) (.int b) = some (.int (a / b)) := by rw [ev_fDiv, if_pos (by simp [h1, h2])]
theorem mod_ok (h1 : 0 < b) : fMod (.int a) (.int b) = some (.int (a % b)) := by rw [ev_fMod, if_pos (by simp [h1])]
theorem shr_ok (h1 : 0 <= b) : fShr (.int a) (.int b) = some (.int (a / 2 ^ b.toNat)) := by show (if _ then _ else _) = _; rw [if_pos (by simp [h1])]
@[simp] theorem ev_fAnd : fAnd (.int a) (.int b) = some (.int (Builtin.bitAnd a b)) := rfl
theorem ev_fPow : fPow (.int a) (.int b) = if decide (0 <= b) && decide (b <= 1000000) && decide (a.natAbs < 18446744073709551616) then some (.int (a ^ b.toNat)) else none := rfl
@[simp] theorem ev_fLt : fLt (.int a) (.int b) = some (.bl (decide (a < b))) := rfl
@[simp] theorem ev_fLe : fLe (.int a) (.int b) = some (.bl (decide (a <= b))) := rfl
@[simp] theorem ev_fGt : fGt (.int a) (.int b) = some (.bl (decide (b < a))) := rfl
@[simp] theorem ev_fIxL : fIx (.lst ds) (.int a) = atI ds a := rfl
@[simp] theorem ev_fIxT : fIx (.tup ds) (.int a) = atI ds a := rfl
@[simp] theorem ev_fIxS {ns : List Int} : fIx (.scr ns) (.int a) = (atI ns a).map D.int := rfl
theorem eqOk_int : eqOk (.int a) = true := by simp [eqOk, SeqAt.shaped, toP, PyData.canLay0, PyData.depth]
@[simp] theorem ev_fEqI {neg : Bool} : fEq neg (.int a) (.int b) = some (.bl (if neg then !decide (a = b) else decide (a = b))) := by
  unfold fEq
  rw [eqOk_int, eqOk_int]
  have : eqD (.int a) (.int b) = decide (a = b) := by
    by_cases h : a = b
    · subst h; simp [eqD, toP, PyData.eqv]
    · simp [eqD, toP, PyData.eqv, h]
  rw [this]; rfl
@[simp] theorem ev_fIs {neg : Bool} : fIs neg d .non = some (.bl (if neg then !isNon d else isNon d)) := by cases d <;> rfl
@[simp] theorem ev_isNon0 : isNon .non = true := rfl
@[simp] theorem ev_isNonI : isNon (.int a) = false := rfl
@[simp] theorem ev_truB {b : Bool} : truD (.bl b) = some b := rfl
@[simp] theorem ev_truL : truD (.lst ds) = some (!ds.isEmpty) := rfl
@[simp] theorem ev_truT : truD (.tup ds) = some (!ds.isEmpty) := rfl
@[simp] theorem ev_fLenL : fLen [.lst ds] = some (.int ds.length) := rfl
@[simp] theorem ev_fLenT : fLen [.tup ds] = some (.int ds.length) := rfl
@[simp] theorem ev_fLenS {ns : List Int} : fLen [.scr ns] = some (.int ns.length) := rfl
@[simp] theorem ev_fMax : fMax [.int a, .int b] = some (.int (max a b)) := by
  show some (D.int (if b > a then b else a)) = _
  congr 2; split <;> omega
@[simp] theorem ev_fMin : fMin [.int a, .int b] = some (.int (min a b)) := by
  show some (D.int (if b < a then b else a)) = _
  congr 2; split <;> omega
@[simp] theorem ev_fAll : fAll [.lst ds] = (asBs ds).map fun bs => .bl (bs.all fun x => x) := rfl
@[simp] theorem ev_tyI : tyD (.int a) = some "int" := rfl
@[simp] theorem ev_tyB {b : Bool} : tyD (.bl b) = some "bool" := rfl
@[simp] theorem ev_tyN : tyD .non = some "NoneType" := rfl
@[simp] theorem ev_tyL : tyD (.lst ds) = some "list" := rfl
@[simp] theorem ev_tyT : tyD (.tup ds) = some "tuple" := rfl
@[simp] theorem ev_tyS {x : Str} : tyD (.str x) = some "str" := rfl
@[simp] theorem subT_int_int : subT "int" "int" = some true := by decide
@[simp] theorem subT_int_bool : subT "int" "bool" = some false := by decide
@[simp] theorem subT_non_int : subT "NoneType" "int" = some false := by decide
@[simp] theorem subT_l_l : subT "list" "list" = some true := by decide
@[simp] theorem subT_t_t : subT "tuple" "tuple" = some true := by decide
@[simp] theorem ev_sSeq : sSeq s1 s2 ρ = thenB (s1 ρ) s2 := rfl
@[simp] theorem thenB_next : thenB (some (.next ρ)) s2 = s2 ρ := rfl
@[simp] theorem thenB_ret {o : En} : thenB (some (.ret o)) s2 = some (.ret o) := rfl
@[simp] theorem thenB_none : thenB none s2 = none := rfl
@[simp] theorem loopB_next {k : EnvD -> Option Fl} : loopB (some (.next ρ)) k = k ρ := rfl
@[simp] theorem loopB_ret {k : EnvD -> Option Fl} {o : En} : loopB (some (.ret o)) k = some (.ret o) := rfl
@[simp] theorem loopB_none {k : EnvD -> Option Fl} : loopB none k = none := rfl
@[simp] theorem ev_sNext : sNext ρ = some (.next ρ) := rfl
@[simp] theorem ev_sNever : sNever ρ = none := rfl
@[simp] theorem ev_sSet : sSet i g ρ = (g ρ).map fun d => .next (ρ.set i (some (.val d))) := rfl
@[simp] theorem ev_sSetA : sSetA i gs ρ = (gs ρ).map fun ds => .next (ρ.set i (some (.acc ds))) := rfl
@[simp] theorem ev_sRet : sRet g ρ = (g ρ).map fun d => .ret (.val d) := rfl
@[simp] theorem ev_sRetA : sRetA gs ρ = (gs ρ).map fun d => .ret (.acc d) := rfl
@[simp] theorem ev_sRetV : sRetV i ρ = match ρ[i]? with | some (some (.acc ds)) => some (.ret (.acc ds)) | some (some (.val d)) => some (.ret (.val d)) | _ => none := rfl
@[simp] theorem ev_sIf : sIf ta s1 s2 ρ = (ta ρ).bind fun b => if b then s1 ρ else s2 ρ := rfl
@[simp] theorem ev_sApp : sApp i g ρ = match ρ[i]? with | some (some (.acc ds)) => (g ρ).bind fun d => if ds.length <= TOP then some (.next (ρ.set i (some (.acc (ds ++ [d]))))) else none | _ => none := rfl
@[simp] theorem ev_sPut {gi : EnvD -> Option D} : sPut i gi g ρ = match ρ[i]? with | some (some (.acc ds)) => (g ρ).bind fun d => ((gi ρ).bind asI).bind fun j => (ixN ds.length j).map fun n => .next (ρ.set i (some (.acc (ds.set n d)))) | _ => none := rfl
@[simp] theorem ev_sFor {t : Tgt} {gi : EnvD -> Option (List D)} : sFor t gi s1 ρ = (gi ρ).bind fun ds => forD t s1 ds ρ := rfl
@[simp] theorem ev_asgN : asgD (.name i) d ρ = some (ρ.set i (some (.val d))) := rfl
@[simp] theorem ev_asgT {is : List Nat} : asgD (.tup is) (.tup ds) ρ = if ds.length = is.length then some (setMany is ds ρ) else none := rfl
@[simp] theorem ev_setMany {is : List Nat} : setMany (i :: is) (d :: ds) ρ = setMany is ds (ρ.set i (some (.val d))) := rfl
@[simp] theorem ev_setMany0 : setMany [] [] ρ = ρ := rfl
@[simp] theorem ev_outR {o : En} : outO (some (.ret o)) = some o := rfl
@[simp] theorem ev_outN : outO (some (.next ρ)) = some (.val .non) := rfl
@[simp] theorem ev_for0 {t : Tgt} : forD t s1 [] ρ = some (.next ρ) := rfl
@[simp] theorem ev_forS {t : Tgt} : forD t s1 (d :: ds) ρ = loopB ((asgD t d ρ).bind s1) (forD t s1 ds) := by
  show ((asgD t d ρ).bind fun ρ1 => (s1 ρ1).bind fun fl => _) = _
  cases asgD t d ρ with
  | none => rfl
  | some ρ1 => rfl
@[simp] theorem ev_comp0 {t : Tgt} : compD t ta g ρ [] = some [] := rfl
@[simp] theorem ev_compS {t : Tgt} : compD t ta g ρ (d :: ds) = (asgD t d ρ).bind fun ρ1 => (ta ρ1).bind fun b => if b then (g ρ1).bind fun y => (compD t ta g ρ ds).map (y :: ·) else compD t ta g ρ ds := rfl
@[simp] theorem ev_cap1 : capO (some (some (.val d))) = some (.val d) := rfl
@[simp] theorem ev_cap2 : capO (some (some (.acc ds))) = some (.bor ds) := rfl
@[simp] theorem ev_cap3 : capO (some (some (.bor ds))) = some (.bor ds) := rfl
@[simp] theorem ev_cap4 {oa : Option Addr} {kvs : List (Key × D)} : capO (some (some (.dct oa kvs))) = some (.dbo kvs) := rfl
@[simp] theorem ev_cap5 {kvs : List (Key × D)} : capO (some (some (.dbo kvs))) = some (.dbo kvs) := rfl
theorem atI_at {xs : List α} {v : α} (n : Nat) (h : xs[n]? = some v) : atI xs (n : Int) = some v := by
  have hl : n < xs.length := (List.getElem?_eq_some_iff.mp h).1
  unfold atI ixN
  rw [if_pos (by omega), if_pos (by omega)]
  simpa using h
@[simp] theorem atI_0 {xs : List α} {v : α} : atI (v :: xs) 0 = some v := atI_at 0 rfl
@[simp] theorem atI_1 {xs : List α} {v w : α} : atI (w :: v :: xs) 1 = some v := atI_at 1 rfl
@[simp] theorem atI_2 {xs : List α} {v w u : α} : atI (u :: w :: v :: xs) 2 = some v := atI_at 2 rfl
@[simp] theorem atI_last {xs : List α} {v : α} : atI (xs ++ [v]) (-1) = some v := by
  unfold atI ixN
  rw [if_neg (by omega), if_pos (by simp; omega)]
  simp
  have : (-1 + ((xs.length : Int) + 1)).toNat = xs.length := by omega
  rw [this]; simp
theorem ixN_last (n : Nat) : ixN (n + 1) (-1) = some n := by
  unfold ixN
  rw [if_neg (by omega), if_pos (by omega)]
  congr 1; omega
theorem rngD_map : ∀ (lo : Int) (n : Nat), rngD lo n = (List.range n).map fun (k : Nat) => D.int (lo + k)
  | lo, 0 => rfl
  | lo, n + 1 => by
    rw [rngD, rngD_map (lo + 1) n, List.range_succ_eq_map]
    simp only [List.map_cons, List.map_map]
    congr 1
    · simp
    · apply List.map_congr_left
      intro a _
      show D.int _ = D.int _
      congr 1
      show lo + 1 + (a : Int) = lo + ((a + 1 : Nat) : Int)
      omega
end
section
variable {X : Cx} {B : Bs} {e a b c o : Expr} {es : List Expr} {pos p apos cpos p2 : Pos} {g ga gb go : EnvD -> Option D} {gs : EnvD -> Option (List D)} {x : Str}
def fPlus : D -> D -> Option D
  | .int i, .int j => some (.int (i + j))
  | .str x, .str y => if x.length + y.length <= TOP then some (.str (x ++ y)) else none
  | _, _ => none
theorem ok_plus {K : KW} : OkR K (fun x y H Q => rI0 (fun i j => .int (i + j)) x y H Q ∨ ∃ i j, x = .str i /\ y = .str j /\ i.length + j.length <= sizeLine /\ Q (.str (i ++ j)) H) (pE K) fPlus := by
  intro F H x y dx dy d Q s rx ry e k
  unfold fPlus at e
  split at e
  · cases e; exact .inl ⟨_, _, rx.int, ry.int, k _ F H (.refl s) rfl⟩
  · split at e
    · rename_i hc
      cases e; exact .inr ⟨_, _, rx.str, ry.str, top_line hc, k _ F H (.refl s) rfl⟩
    · cases e
  · cases e
theorem de_plus (ha : DR X B a ga) (hb : DR X B b gb) : DE X B (.BinOp a .Add b pos) (g2 fPlus ga gb) := de_op (op_add.or op_add_str) ok_plus ha hb
def fItem : D -> D -> Option D
  | .str z, .int i => if z.length <= TOP then (atI z.cps.toList i).map fun c => .str ⟨#[c]⟩ else none
  | .lst xs, .int i => atI xs i
  | .tup xs, .int i => atI xs i
  | .scr ns, .int i => (atI ns i).map D.int
  | _, _ => none
theorem ok_item {K : KW} : OkR K (rIx K) (pE K) fItem := by
  intro F H x y dx dy d Q s rx ry e k
  cases dx with
  | str z =>
    cases dy with
    | int i =>
      replace e : (if z.length <= TOP then (atI z.cps.toList i).map (fun c => D.str ⟨#[c]⟩) else none) = some d := e
      split at e
      · rename_i hc
        cases q : atI z.cps.toList i with
        | none => rw [q] at e; cases e
        | some c =>
          rw [q] at e
          cases e
          exact .inr (.inr ⟨z, i, c, rx.str, ry.int, top_line hc, q, k _ F H (.refl s) rfl⟩)
      · cases e
    | _ => cases e
  | lst xs => exact ok_ix F H x y _ dy d Q s rx ry (by cases dy <;> first | exact e | cases e) k
  | tup xs => exact ok_ix F H x y _ dy d Q s rx ry (by cases dy <;> first | exact e | cases e) k
  | scr xs => exact ok_ix F H x y _ dy d Q s rx ry (by cases dy <;> first | exact e | cases e) k
  | _ => cases dy <;> cases e
theorem de_item2 (ha : DR X B a ga) (hb : DR X B b gb) (hs : PlainIx b) : DE X B (.Subscript a b pos) (g2 fItem ga gb) := de_ix ix_seq ok_item ha hb hs
def rSlS : V -> Option Int -> Option Int -> Hp -> VK -> Prop := fun x lo hi H Q => ∃ z, x = .str z /\ z.length <= sizeLine /\ Q (.str (Txt.slice z lo hi)) H
theorem sl_str : SlR X rSlS := by
  intro pins s σ H x v vl vu lo hi sl Q I rx hs pl pu h
  obtain ⟨z, rfl, hz, q⟩ := h
  obtain ⟨t, rfl⟩ := rx
  refine ⟨"str", _, PySem.F.slot_str_getitem.lookup, typeIs_str _ _ _, ?_⟩
  cases pl with
  | none =>
    cases pu with
    | none => exact wpAny_getItem_str_slice (l := none) (u := none) (st := none) hs rfl (post_val_or_str ⟨Nat.le_trans (Txt.slice_le z none none) hz, fun t' k => ⟨.str _, H, I.tok _, ⟨_, rfl⟩, q⟩⟩)
    | int j tj => exact wpAny_getItem_str_slice (l := none) (u := some (j, tj)) (st := none) hs rfl (post_val_or_str ⟨Nat.le_trans (Txt.slice_le z none (some j)) hz, fun t' k => ⟨.str _, H, I.tok _, ⟨_, rfl⟩, q⟩⟩)
  | int i ti =>
    cases pu with
    | none => exact wpAny_getItem_str_slice (l := some (i, ti)) (u := none) (st := none) hs rfl (post_val_or_str ⟨Nat.le_trans (Txt.slice_le z (some i) none) hz, fun t' k => ⟨.str _, H, I.tok _, ⟨_, rfl⟩, q⟩⟩)
    | int j tj => exact wpAny_getItem_str_slice (l := some (i, ti)) (u := some (j, tj)) (st := none) hs rfl (post_val_or_str ⟨Nat.le_trans (Txt.slice_le z (some i) (some j)) hz, fun t' k => ⟨.str _, H, I.tok _, ⟨_, rfl⟩, q⟩⟩)
def gSlS (g : EnvD -> Option D) (gl gh : EnvD -> Option (Option Int)) : EnvD -> Option D := fun ρ => (g ρ).bind fun d => (gl ρ).bind fun l => (gh ρ).bind fun h => match d with
  | .str z => if z.length <= TOP then some (.str (Txt.slice z l h)) else none
  | _ => none
theorem de_sliceS {lo hi : Option Expr} {gl gh : EnvD -> Option (Option Int)} (he : DR X B e g) (hl : DO X B lo gl) (hh : DO X B hi gh) : DE X B (.Subscript e (.Slice lo hi none p2) pos) (gSlS g gl gh) :=
  pe_imp (pe_slice sl_str he hl hh) fun σ H Q ⟨F, ρ, d, r, hg, k⟩ => by
    unfold gSlS at hg
    cases q : g ρ with
    | none => rw [q] at hg; cases hg
    | some x =>
      cases ql : gl ρ with
      | none => rw [q, ql] at hg; cases hg
      | some l =>
        cases qh : gh ρ with
        | none => rw [q, ql, qh] at hg; cases hg
        | some h =>
          rw [q, ql, qh] at hg
          cases x with
          | str z =>
            replace hg : (if z.length <= TOP then some (D.str (Txt.slice z l h)) else none) = some d := hg
            split at hg
            · rename_i hc
              cases hg
              refine ⟨F, ρ, _, r, q, fun v F1 H1 e1 p1 => ⟨F1, ρ, l, r.ext e1, ql, fun F2 H2 e2 => ⟨F2, ρ, h, r.ext (e1.trans e2), qh, fun F3 H3 e3 => ?_⟩⟩⟩
              exact ⟨z, p1.str, top_line hc, k _ F3 H3 (e1.trans (e2.trans e3)) rfl⟩
            · cases hg
          | _ => cases hg
theorem strsAre_of : ∀ {ys : List Str} {us : List Value}, Vals (ys.map V.str) us -> StrsAre us ys
  | [], _, .nil => .nil
  | y :: ys, _, .cons r t => by
    obtain ⟨k, rfl⟩ := r
    exact .cons y k (strsAre_of t)
def rJoin (K : KW) : V -> List V -> Hp -> VK -> Prop := fun x vs H Q => ∃ z a ys, x = .str z /\ vs = [.ref a] /\ SqL K H a (ys.map V.str) /\ (ys.map (·.length)).sum + ys.length * z.length <= 16777216 /\ Q (.str (Txt.join z ys)) H
theorem mt_join : MtR X "str.join" (rJoin X.kw) := by
  intro pins s σ H x vs v us Q I rx rv h
  obtain ⟨z, a, ys, rfl, rfl, hq, hz, q⟩ := h
  obtain ⟨t, rfl⟩ := rx
  obtain ⟨u, rfl, ru⟩ := rv.one
  cases ru
  obtain ⟨its, r, pl, _⟩ := I.list hq
  exact join_list pl.isList (by simpa using strsAre_of r) hz fun t' k => ⟨.str _, H, I.tok _, ⟨_, rfl⟩, q⟩
def asSs : List D -> Option (List Str)
  | [] => some []
  | .str x :: r => (asSs r).map (x :: ·)
  | _ => none
theorem asSs_rps {K : KW} {F : Hp} : ∀ {ds : List D} {vs : List V} {bs : List Str}, asSs ds = some bs -> Rps K F ds vs -> vs = bs.map V.str
  | [], _, _, e, h => by cases e; cases h; rfl
  | .str b :: r, _, _, e, ⟨v, w, e1, h, t⟩ => by
    subst e1; cases h
    cases q : asSs r with
    | none => rw [show asSs (.str b :: r) = (asSs r).map (b :: ·) from rfl, q] at e; cases e
    | some bs =>
      rw [show asSs (.str b :: r) = (asSs r).map (b :: ·) from rfl, q] at e
      cases e
      rw [asSs_rps q t]; rfl
  | .non :: _, _, _, e, _ => by cases e
  | .int _ :: _, _, _, e, _ => by cases e
  | .bl _ :: _, _, _, e, _ => by cases e
  | .lst _ :: _, _, _, e, _ => by cases e
  | .tup _ :: _, _, _, e, _ => by cases e
  | .scr _ :: _, _, _, e, _ => by cases e
  | .obj _ _ _ :: _, _, _, e, _ => by cases e
  | .emp :: _, _, _, e, _ => by cases e
def fJoin : D -> List D -> Option D
  | .str z, [.lst ds] => (asSs ds).bind fun ys => if (ys.map (·.length)).sum + ys.length * z.length <= TOP then some (.str (Txt.join z ys)) else none
  | _, _ => none
def gSM (f : D -> List D -> Option D) (go : EnvD -> Option D) (gs : EnvD -> Option (List D)) : EnvD -> Option D := fun ρ => (go ρ).bind fun d => (gs ρ).bind fun ds => f d ds
theorem de_join (ho : DR X B o go) (ha : DRs X B [e] gs)
    (hbase : attributeBase o "join" X.env (eval o X.env) = eval o X.env := by rfl)
    (hfew : ((backTo cpos (starEach [e] X.env)).all (fun x => !x.1) && (backToKw cpos (keywordEach [] X.env)).all (fun x => x.1.isSome)
      && decide (([e] : List Expr).length + ([] : List Keyword).length + (if ([] : List Keyword).isEmpty then 0 else 1) < 30)) = true := by rfl)
    (hline : (apos.endLine == cpos.line) = true := by rfl) (hs : starEach [e] X.env = (false, eval e X.env) :: starEach [] X.env := by rfl) (hplain : (backTo cpos (starEach [] X.env)).any (·.1) = false := by rfl) :
    DE X B (.Call (.Attribute o "join" apos) [e] [] cpos) (gSM fJoin go gs) :=
  pe_imp (pe_bm PySem.F.plainAttrs_str PySem.F.slot_str_join PySem.F.type_str_join mt_join ho ha hbase hfew hline hs hplain) fun σ H Q ⟨F, ρ, d, r, hg, k⟩ => by
    obtain ⟨d1, ds, q1, q2, q3⟩ := bind2 hg
    unfold fJoin at q3
    split at q3
    · rename_i z xs
      cases q4 : asSs xs with
      | none => rw [q4] at q3; cases q3
      | some ys =>
        rw [q4] at q3
        replace q3 : (if (ys.map (·.length)).sum + ys.length * z.length <= TOP then some (D.str (Txt.join z ys)) else none) = some d := q3
        split at q3
        · rename_i hc
          cases q3
          refine ⟨F, ρ, _, r, q1, fun v F1 H1 e1 p1 => ?_⟩
          cases p1.str
          refine ⟨rfl, F1, ρ, _, r.ext e1, q2, fun vs F2 H2 e2 p2 => ?_⟩
          obtain ⟨w, rfl, rw'⟩ := pair1 p2
          obtain ⟨a, us, rfl, h1, h2⟩ := rw'.lst e2.fh
          have := asSs_rps q4 h2
          subst this
          exact ⟨z, a, ys, rfl, rfl, .of h1, Nat.le_trans hc (by decide), k _ F2 H2 (e1.trans e2) rfl⟩
        · cases q3
    · cases q3
def rCatS (K : KW) : R2 := fun x y H Q => ∃ l b xs zs, x = .ref l /\ y = .ref b /\ SqL K H l xs /\ SqL K H b zs /\ xs.length + zs.length <= sizeLine /\ ∀ p, H p = none -> Q (.ref p) (upd H p (.lst (xs ++ zs)))
theorem op_catS : OpR X (binaryOp .Add) (rCatS X.kw) := by
  intro pins s σ H x y v u Q I rx ry h
  obtain ⟨l, b, xs, zs, rfl, rfl, hH, hB, hz, q⟩ := h
  cases rx
  cases ry
  obtain ⟨its, r, pl, z⟩ := I.list hH
  obtain ⟨its2, r2, pl2, z2⟩ := I.list hB
  obtain ⟨⟨cls, dd, data, sl⟩, n, ho, hc, hd', hd⟩ := pl
  obtain ⟨⟨cls2, dd2, data2, sl2⟩, n2, ho2, hc2, hd2', hd2⟩ := pl2
  simp only at hc hd hc2 hd2
  subst hc hd hc2 hd2
  have e : its.toArray ++ its2.toArray = (its ++ its2).toArray := by simp
  have l1 := r.length
  have l2 := r2.length
  refine concat_meets ⟨_, ho, rfl⟩ ⟨_, ho2, rfl⟩ noFill_list_add seq_list_add PySem.F.slot_list_add PySem.F.entry_list_add (PySem.F.args_list_add_2 _ _) (list_addW l b its.toArray its2.toArray n n2 dd dd2 sl sl2 (by simp; omega)) ⟨ho, ho2, ?_⟩
  rw [e]
  exact ⟨.ref _, _, I.lnew (t' := s.toks) (r.append r2) (by rw [List.length_append]; omega), rfl, q _ I.fresh⟩
def fCatS : D -> D -> Option (List D) := fun x y => (itL x).bind fun xs => (itL y).bind fun ys => if xs.length + ys.length <= TOP then some (xs ++ ys) else none
theorem ok_catS {K : KW} : OkR K (rCatS K) (pA K) fCatS := by
  intro F H x y dx dy d Q s rx ry e k
  unfold fCatS at e
  obtain ⟨xs, ys, q1, q2, q3⟩ := bind2 e
  split at q3
  · rename_i hc
    cases q3
    obtain ⟨l, vs, rfl, h2, h1⟩ := rq_items rx q1
    obtain ⟨b, ws, rfl, h4, h3⟩ := rq_items ry q2
    refine ⟨l, b, vs, ws, rfl, rfl, h1 F H (Same.refl _) s (Same.refl _), h3 F H (Same.refl _) s (Same.refl _), top_line (by rw [<- h2.length, <- h4.length]; exact hc), fun p hp => k _ F _ (.new s hp) ⟨p, _, rfl, hp, upd_same, s.free hp, h2.append h4⟩⟩
  · cases q3
theorem da_catS (ha : DR X B a ga) (hb : DR X B b gb) : DA X B (.BinOp a .Add b pos) (g2 fCatS ga gb) := da_op op_catS ok_catS ha hb
def whileD (t : EnvD -> Option Bool) (gb : SD) : Nat -> EnvD -> Option Fl
  | 0, _ => none
  | n + 1, ρ => (t ρ).bind fun b => if b then (gb ρ).bind fun fl => match fl with
    | .next ρ2 => whileD t gb n ρ2
    | .cont ρ2 => whileD t gb n ρ2
    | .brk ρ2 => some (.next ρ2)
    | .ret o => some (.ret o)
    else some (.next ρ)
open Classical in
variable {nm : Str} {id : String} {r : V -> List V -> Hp -> VK -> Prop} {f : List D -> List D -> Option (List D)}
section
variable {i : Nat} {y : Str} {py spos : Pos} {elt tg iter : Expr} {ifs : List Expr} {scope : Scope} {own : List Str} {cap : List (Str × Nat)} {t : Tgt} {tc : EnvD -> Option Bool} {ge : EnvD -> Option D} {gi : EnvD -> Option (List D)}
end
end
section
variable {X : Cx} {B : Bs} {e a b c o : Expr} {es : List Expr} {pos p p2 apos cpos : Pos} {g ga gb go : EnvD -> Option D} {gs : EnvD -> Option (List D)} {x : Str}
def gh (i : Nat) : EnvD -> Option D := fun ρ => match ρ[i]? with
  | some (some (.val d)) => some d
  | some (some (.acc ds)) => some (.lst ds)
  | some (some (.bor ds)) => some (.lst ds)
  | some (some (.tre t)) => some t.erase
  | _ => none
variable {gt' : EnvD -> Option OT} {gts : EnvD -> Option (List OT)}
variable {gxs : EnvD -> Option (List En)} {n k : Nat} {m : List En -> Option En}
mutual
def OT.get : OT -> List Nat -> Option OT
  | t, [] => some t
  | .lst ts, k :: p => gets ts k p
  | .tup ts, k :: p => gets ts k p
  | .frz _, _ :: _ => none
def gets : List OT -> Nat -> List Nat -> Option OT
  | [], _, _ => none
  | t :: _, 0, p => t.get p
  | _ :: ts, k + 1, p => gets ts k p
end
mutual
def OT.put : OT -> List Nat -> OT -> OT
  | _, [], u => u
  | .lst ts, k :: p, u => .lst (puts ts k p u)
  | .tup ts, k :: p, u => .tup (puts ts k p u)
  | .frz d, _ :: _, _ => .frz d
def puts : List OT -> Nat -> List Nat -> OT -> List OT
  | [], _, _, _ => []
  | t :: ts, 0, p, u => t.put p u :: ts
  | t :: ts, k + 1, p, u => t :: puts ts k p u
end
structure At (K : KW) (F H : Hp) (ft : List Addr) (ds : List D) (b : Addr) (vs : List V) : Prop where
  hb : H b = some (.lst vs)
  rp : Rps K F ds vs
  mem : b ∈ ft
end
def OT.size : OT -> Option Nat
  | .lst ts => some ts.length
  | .tup ts => some ts.length
  | .frz _ => none
section
variable {X : Cx} {B : Bs} {e a b c o : Expr} {es : List Expr} {pos p p2 apos cpos : Pos} {g ga gb go : EnvD -> Option D} {gs : EnvD -> Option (List D)} {x nm : Str} {gp : EnvD -> Option (List Nat)}
variable {id : String} {r : V -> List V -> Hp -> VK -> Prop} {f : List D -> List D -> Option (List D)}
end
section
variable {ρ : EnvD} {i : Nat} {t : OT} {ga gb : EnvD -> Option D} {gs : EnvD -> Option (List D)} {gp : EnvD -> Option (List Nat)} {ds : List D} {gt' : EnvD -> Option OT} {gts : EnvD -> Option (List OT)} {gl : EnvD -> Option (List D)} {α : Type}
@[simp] theorem ev_gh : gh i ρ = match ρ[i]? with | some (some (.val d)) => some d | some (some (.acc ds)) => some (.lst ds) | some (some (.bor ds)) => some (.lst ds) | some (some (.tre t)) => some t.erase | _ => none := rfl
@[simp] theorem ev_eraseF {d : D} : (OT.frz d).erase = d := by simp [OT.erase]
@[simp] theorem ev_eraseT {ts : List OT} : (OT.tup ts).erase = .tup (erases ts) := by simp [OT.erase]
@[simp] theorem ev_erases0 : erases [] = [] := by simp [erases]
@[simp] theorem ev_erases1 {ts : List OT} : erases (t :: ts) = t.erase :: erases ts := by simp [erases]
end
section
variable {ρ : EnvD} {i k n m : Nat} {d x y : D} {ds es : List D} {a b j : Int} {α γ : Type} {ga gb gc' g : EnvD -> Option D} {ta tb : EnvD -> Option Bool} {gs : EnvD -> Option (List D)} {s1 s2 : SD} {p q : Str} {ns : List Int}
@[simp] theorem ev_fPlusI : fPlus (.int a) (.int b) = some (.int (a + b)) := rfl
@[simp] theorem ev_fPlusS : fPlus (.str p) (.str q) = if p.length + q.length <= TOP then some (.str (p ++ q)) else none := rfl
@[simp] theorem ev_fItemL : fItem (.lst ds) (.int a) = atI ds a := rfl
@[simp] theorem ev_fItemT : fItem (.tup ds) (.int a) = atI ds a := rfl
@[simp] theorem ev_fItemR : fItem (.scr ns) (.int a) = (atI ns a).map D.int := rfl
theorem ev_fItemS : fItem (.str p) (.int a) = if p.length <= TOP then (atI p.cps.toList a).map fun c => .str ⟨#[c]⟩ else none := rfl
@[simp] theorem ev_gSlS {gl gh : EnvD -> Option (Option Int)} : gSlS g gl gh ρ = (g ρ).bind fun d => (gl ρ).bind fun l => (gh ρ).bind fun h => match d with | .str z => if z.length <= TOP then some (.str (Txt.slice z l h)) else none | _ => none := rfl
@[simp] theorem ev_gSM {f : D -> List D -> Option D} : gSM f ga gs ρ = (ga ρ).bind fun d => (gs ρ).bind fun ds => f d ds := rfl
@[simp] theorem ev_fJoin : fJoin (.str p) [.lst ds] = (asSs ds).bind fun ys => if (ys.map (·.length)).sum + ys.length * p.length <= TOP then some (.str (Txt.join p ys)) else none := rfl
@[simp] theorem ev_itLs : itL (.scr ns) = some (ns.map D.int) := rfl
@[simp] theorem ev_fCatS : fCatS x y = (itL x).bind fun xs => (itL y).bind fun ys => if xs.length + ys.length <= TOP then some (xs ++ ys) else none := rfl
@[simp] theorem ev_tyR : tyD (.str p) = some "str" := rfl
@[simp] theorem ev_isNonL : isNon (.lst ds) = false := rfl
theorem fEqB {neg u v : Bool} : fEq neg (.bl u) (.bl v) = some (.bl (if neg then !(u == v) else (u == v))) := by
  cases neg <;> cases u <;> cases v <;> rfl
theorem while_end {t : EnvD -> Option Bool} (h : t ρ = some false) : whileD t s1 (n + 1) ρ = some (.next ρ) := by
  rw [whileD, h]; rfl
theorem while_turn {t : EnvD -> Option Bool} {ρ2 : EnvD} (h : t ρ = some true) (h2 : s1 ρ = some (.next ρ2)) : whileD t s1 (n + 1) ρ = whileD t s1 n ρ2 := by
  rw [whileD, h]
  show ((s1 ρ).bind _) = _
  rw [h2]; rfl
theorem cut_hi {xs : List α} (h : 0 <= a) : cutD xs none (some a) = xs.take a.toNat := by
  simp only [cutD, HT.sIx]
  rw [if_neg (show ¬ a < 0 by omega)]
  simp only [Nat.sub_zero, List.drop_zero]
  by_cases h2 : a.toNat <= xs.length
  · rw [Nat.min_eq_left h2]
  · rw [Nat.min_eq_right (by omega), List.take_of_length_le (Nat.le_refl _), List.take_of_length_le (by omega)]
theorem cut_lo {xs : List α} (h : 0 <= a) : cutD xs (some a) none = xs.drop a.toNat := by
  simp only [cutD, HT.sIx]
  rw [if_neg (show ¬ a < 0 by omega)]
  by_cases h2 : a.toNat <= xs.length
  · rw [Nat.min_eq_left h2]
    exact List.take_of_length_le (by simp)
  · rw [Nat.min_eq_right (by omega), List.drop_of_length_le (Nat.le_refl _), List.drop_of_length_le (by omega)]; simp
theorem cut_map {β : Type} {f : α -> β} {xs : List α} {l h : Option Int} : cutD (xs.map f) l h = (cutD xs l h).map f := by
  unfold cutD; simp [List.map_drop, List.map_take]
theorem atI_pos {xs : List α} (h1 : 0 <= a) (h2 : a < xs.length) : ∃ v, atI xs a = some v /\ xs[a.toNat]? = some v := by
  obtain ⟨n, rfl⟩ : ∃ n : Nat, a = (n : Int) := ⟨a.toNat, by omega⟩
  have hl : n < xs.length := by omega
  exact ⟨xs[n], atI_at n (List.getElem?_eq_getElem hl), by simp [hl]⟩
theorem atI_map {β : Type} {f : α -> β} {xs : List α} : atI (xs.map f) a = (atI xs a).map f := by
  unfold atI
  rw [List.length_map]
  cases ixN xs.length a with
  | none => rfl
  | some j => simp
theorem atI_mem {xs : List α} {v : α} (h : atI xs a = some v) : v ∈ xs := by
  unfold atI at h
  cases q : ixN xs.length a with
  | none => rw [q] at h; cases h
  | some j => rw [q] at h; exact List.mem_of_getElem? h
def Tx (n : Nat) (x : Str) : Prop := PyData.strOk x = true /\ x.length <= n
theorem Tx.mono {x : Str} (h : Tx n x) (e : n <= m) : Tx m x := ⟨h.1, Nat.le_trans h.2 e⟩
theorem Tx.app {x y : Str} (h : Tx n x) (h' : Tx m y) : Tx (n + m) (x ++ y) := by
  refine ⟨?_, ?_⟩
  · show (x.cps ++ y.cps).all _ = true
    rw [Array.all_append]
    exact Bool.and_eq_true_iff.mpr ⟨h.1, h'.1⟩
  · show (x.cps ++ y.cps).size <= n + m
    rw [Array.size_append]
    have h1 := h.2
    have h2 := h'.2
    unfold Str.length at h1 h2
    omega
theorem Tx.slice {x : Str} {l u : Option Int} (h : Tx n x) : Tx n (Txt.slice x l u) := by
  refine ⟨?_, Nat.le_trans (Txt.slice_le x l u) h.2⟩
  unfold Txt.slice
  split
  · exact h.1
  · have h1 := h.1
    unfold PyData.strOk at h1 ⊢
    rw [Array.all_eq_true'] at h1
    rw [Array.all_eq_true']
    intro c hc
    simp only [List.mem_toArray, List.mem_filterMap] at hc
    obtain ⟨i, _, e⟩ := hc
    exact h1 c (Array.mem_of_getElem? e)
theorem Tx.item {z : Str} (h : Tx n z) (hn : n <= TOP) (h1 : 0 <= a) (h2 : a < z.length) : ∃ c, fItem (.str z) (.int a) = some (.str c) /\ Tx 1 c := by
  have hl : (z.cps.toList.length : Int) = z.length := by simp [Str.length]
  obtain ⟨c, e1, e2⟩ := atI_pos (xs := z.cps.toList) h1 (by omega)
  refine ⟨⟨#[c]⟩, ?_, ?_, Nat.le_refl _⟩
  · rw [ev_fItemS, if_pos (Nat.le_trans h.2 hn), e1]; rfl
  · have h1 := h.1
    unfold PyData.strOk at h1
    rw [Array.all_eq_true'] at h1
    have := h1 c (by simpa using List.mem_of_getElem? e2)
    unfold PyData.strOk
    simpa using this
theorem glue_ok (sep : Str) (hs : PyData.strOk sep = true) : ∀ (rest : List Str) (acc : Array Nat), acc.all (· < 0x110000) = true -> (∀ y ∈ rest, PyData.strOk y = true) -> (rest.foldl (fun acc p => acc ++ sep.cps ++ p.cps) acc).all (· < 0x110000) = true
  | [], _, h, _ => h
  | y :: rest, acc, h, hy => by
    rw [List.foldl_cons]
    refine glue_ok sep hs rest _ ?_ fun z hz => hy z (by simp [hz])
    rw [Array.all_append, Array.all_append]
    have h2 : y.cps.all (· < 0x110000) = true := hy y (by simp)
    have h3 : sep.cps.all (· < 0x110000) = true := hs
    rw [h, h2, h3]; rfl
theorem Tx.join0 {ys : List Str} (h : ∀ y ∈ ys, Tx 1 y) : Tx ys.length (Txt.join "" ys) := by
  have e0 : PyData.strOk ("" : Str) = true := by decide +kernel
  refine ⟨?_, ?_⟩
  · show ((ys.drop 1).foldl (fun acc p => acc ++ ("" : Str).cps ++ p.cps) (ys.headD Str.empty).cps).all (· < 0x110000) = true
    refine glue_ok "" e0 (ys.drop 1) _ ?_ fun y hy => (h y (List.mem_of_mem_drop hy)).1
    cases ys with
    | nil => simp [Str.empty]
    | cons y r => exact (h y (by simp)).1
  · show (Builtin.Str.glued "" ys).length <= ys.length
    rw [PySem.size_glued]
    have e1 : ("" : Str).length = 0 := by decide +kernel
    rw [e1, Nat.mul_zero, Nat.add_zero]
    have : ∀ l : List Str, (∀ y ∈ l, Tx 1 y) -> (l.map (·.length)).sum <= l.length := by
      intro l
      induction l with
      | nil => intro _; exact Nat.le_refl _
      | cons y r ih =>
        intro hh
        have h1 := (hh y (by simp)).2
        have h2 := ih fun z hz => hh z (by simp [hz])
        simp only [List.map_cons, List.sum_cons, List.length_cons]
        omega
    exact this ys h
theorem sum_len1 : ∀ {l : List Str}, (∀ y ∈ l, Tx 1 y) -> (l.map (·.length)).sum <= l.length
  | [], _ => Nat.le_refl _
  | y :: r, hh => by
    have h1 := (hh y (by simp)).2
    have h2 := sum_len1 fun z hz => hh z (List.mem_cons_of_mem _ hz)
    simp only [List.map_cons, List.sum_cons, List.length_cons]
    omega
theorem asSs_map : ∀ (ys : List Str), asSs (ys.map D.str) = some ys
  | [] => rfl
  | y :: ys => by simp [asSs, asSs_map ys]
end
def Its (z : Str) : It := ⟨fun i _ => i < z.cps.size, fun i H x H' => H' = H /\ ∃ c, z.cps[i]? = some c /\ x = .str ⟨#[c]⟩, fun i _ => i = z.cps.size⟩
theorem turn_strG {P : Program} {w : World} {K : PySem.W.Frag} {z : Str} {t : Tok} {it : Addr} {n : String}
    (W : ∀ A' : Around, A'.handled = none -> Walks P w A' it [it] [it] z.cps.size (SignAt z) (fun i h => h.IsStrIter it n z t i))
    (sf : ∀ (A : Around) (i : Nat) (s : Shared) (Q : Value -> Shared -> Prop) (E : Value -> Shared -> Prop), s.heap.IsStrIter it n z t i -> Q (.ref it) s -> wpAny (model P w) A (pyIter (.ref it)) Q E s)
    (hn : ["enumerate", "zip", "dict_itemiterator", "dict_reverseitemiterator", "odict_iterator", "itertools.zip_longest", "itertools.pairwise"].contains n = false) {tg : Expr} :
    Turn P w K tg (Its z) [it] it (fun i h => h.IsStrIter it n z t i) where
  mem := by simp
  obj := fun i h st b hb => by
    have e : b = it := by simpa using hb
    subst e
    obtain ⟨o, e, c, d⟩ := st
    exact ⟨o, e, fun v z => by rw [d] at z; cases z⟩
  keep := fun i h h' st k => let ⟨o, e, r⟩ := st; ⟨o, k it (by simp) o e, r⟩
  item := by
    intro X hP hw hK hc i pins s σ H E I hf st hg
    subst hP hw hK
    obtain ⟨f0, f1, f2, f3, f4, f5⟩ := hf it (by simp)
    refine (W X.A (I.ok.hd hc)).item i s _ _ hg st fun v h' tk hv st' kk => ?_
    obtain ⟨c, u, e, rfl⟩ := hv
    have I1 : Inv X pins σ H { s with heap := h', toks := tk } := I.turned (fun b o hb e => kk b o (by simpa using hb) e) f0 f1 f3 f4 f5
    obtain ⟨o, e1, e2, e3⟩ := id st'
    exact ⟨_, rfl, go_of (s := { s with heap := h', toks := tk }) e1 e2 e3 hn ⟨.str ⟨#[c]⟩, H, I1, ⟨u, rfl⟩, ⟨rfl, c, e, rfl⟩, st', fun b hb => (hf b hb).1⟩⟩
  done := by
    intro X hP hw hK hc i pins s σ H E I hf st hg
    subst hP hw hK
    obtain ⟨f0, f1, f2, f3, f4, f5⟩ := hf it (by simp)
    have hg : i = z.cps.size := hg
    subst hg
    exact (W X.A (I.ok.hd hc)).done s _ _ st fun h' tk kk => ⟨rfl, I.turned (t' := tk) (fun b o hb e => kk b o (by simpa using hb) e) f0 f1 f3 f4 f5⟩
  self := sf
def iStr (tl : TE) : TI := fun σ H R => tl σ H fun x H1 => ∃ z, x = .str z /\ R (Its z) H1
theorem pi_str {X : Cx} {tg l : Expr} {tl : TE} (hl : PE X l tl) : PI X tg l (iStr tl) := by
  intro pins s σ H R I h
  refine thn (hl pins s σ H _ I h) fun v s1 ⟨x, H1, I1, r1, q1⟩ => ?_
  obtain ⟨z, rfl, q⟩ := q1
  obtain ⟨t, rfl⟩ := r1
  have fin : ∀ {n : String} (o : Obj), o = { cls := .type n, data := .fields #[.str z t, .int 0 0] } -> Turn X.prog X.w X.kw tg (Its z) [s1.heap.objs.size] s1.heap.objs.size (fun i h => h.IsStrIter s1.heap.objs.size n z t i) -> PIE X pins σ tg R (.ref s1.heap.objs.size) { s1 with heap := s1.heap.push o } := by
    intro n o ho T
    subst ho
    refine ⟨s1.heap.objs.size, [s1.heap.objs.size], _, _, H1, rfl, I1.kept (t' := s1.toks) fun b o e => Heap.get?_push_of_some _ e, T, ⟨_, Heap.get?_push_size _ rfl, rfl, rfl⟩, fun b hb => ?_, q⟩
    have e : b = s1.heap.objs.size := by simpa using hb
    subst e
    exact I1.fpOk (Nat.le_refl _) (I1.hok.fresh (Nat.le_refl _))
  cases ha : z.cps.all (· < 128)
  · exact wpAny_pyIter_wide ha (fin _ rfl (turn_strG (fun A' hA => Walks.strWide hA _ z t) (fun A i s Q E st h => wpAny_pyIter_striter_wide st h) (by decide)))
  · exact wpAny_pyIter_ascii ha (fin _ rfl (turn_strG (fun A' hA => Walks.strAscii hA _ z t) (fun A i s Q E st h => wpAny_pyIter_striter_ascii st h) (by decide)))
section
variable {X : Cx} {B : Bs} {hb : Hp -> Hp} {e a b c o tg : Expr} {es : List Expr} {pos p p2 apos cpos : Pos} {g ga gb go : EnvD -> Option D} {gs : EnvD -> Option (List D)} {x : Str}
def chD (z : Str) : List D := z.cps.toList.map fun c => D.str ⟨#[c]⟩
def gItS (g : EnvD -> Option D) : EnvD -> Option (List D) := fun ρ => (g ρ).bind fun d => match d with
  | .str z => some (chD z)
  | _ => none
theorem di_str (h : DR X B e g) : DI X B hb tg e (gItS g) :=
  pi_imp (pi_str h) fun σ H R ⟨F, ρ, ds, r, hg, k⟩ => by
    unfold gItS at hg
    cases q : g ρ with
    | none => rw [q] at hg; cases hg
    | some d =>
      rw [q] at hg
      cases d with
      | str z =>
        cases hg
        refine ⟨F, ρ, _, r, q, fun v F1 H1 e1 p1 => ⟨z, p1.str, k _ F1 H1 e1 fun F2 H2 s1 s2 s3 i => ⟨fun hi => ?_, fun hi => ?_⟩⟩⟩
        · have hl : i < z.cps.size := by simpa [chD] using hi
          refine ⟨hl, fun y H3 hy => ?_⟩
          obtain ⟨rfl, c, hc, rfl⟩ := hy
          refine ⟨F2, .str ⟨#[c]⟩, .refl s2, ?_, rfl⟩
          unfold chD
          rw [List.getElem?_map]
          have : z.cps.toList[i]? = some c := by simpa using hc
          rw [this]; rfl
        · show i = z.cps.size
          simpa [chD] using hi
      | _ => cases hg
def toV : D -> Option V
  | .non => some .non
  | .bl b => some (.bl b)
  | .int i => some (.int i)
  | .str x => some (.str x)
  | _ => none
def toVs : List D -> Option (List V)
  | [] => some []
  | d :: ds => (toV d).bind fun v => (toVs ds).map (v :: ·)
theorem toV_rp {K : KW} {F : Hp} {d : D} {v w : V} (h : toV d = some v) (r : Rp K F d w) : w = v /\ flatV v = true := by
  cases d <;> first | (cases h; exact ⟨r, rfl⟩) | cases h
theorem toVs_rps {K : KW} {F : Hp} : ∀ {ds : List D} {vs ws : List V}, toVs ds = some vs -> Rps K F ds ws -> ws = vs /\ vs.all flatV = true
  | [], _, _, h, r => by cases h; cases r; exact ⟨rfl, rfl⟩
  | d :: ds, vs, ws, h, ⟨w, r, e, h1, h2⟩ => by
    subst e
    cases q1 : toV d with
    | none => rw [show toVs (d :: ds) = (toV d).bind fun v => (toVs ds).map (v :: ·) from rfl, q1] at h; cases h
    | some v =>
      cases q2 : toVs ds with
      | none => rw [show toVs (d :: ds) = (toV d).bind fun v => (toVs ds).map (v :: ·) from rfl, q1, q2] at h; cases h
      | some us =>
        rw [show toVs (d :: ds) = (toV d).bind fun v => (toVs ds).map (v :: ·) from rfl, q1, q2] at h
        cases h
        obtain ⟨e1, f1⟩ := toV_rp q1 h1
        obtain ⟨e2, f2⟩ := toVs_rps q2 h2
        subst e1; subst e2
        exact ⟨rfl, by rw [List.all_cons, f1, f2]; rfl⟩
def fIn (neg : Bool) : D -> D -> Option D
  | .str i, .str j => some (.bl (if neg then !(!(Builtin.Str.occurrences j i 0 j.length 1).isEmpty) else !(Builtin.Str.occurrences j i 0 j.length 1).isEmpty))
  | x, .lst ds => (toV x).bind fun v => (toVs ds).map fun vs => .bl (if neg then !inV v vs else inV v vs)
  | x, .tup ds => (toV x).bind fun v => (toVs ds).map fun vs => .bl (if neg then !inV v vs else inV v vs)
  | _, _ => none
def rInA (K : KW) (neg : Bool) : R2 := fun x y H Q => rIn K neg x y H Q ∨ ∃ i j, x = .str i /\ y = .str j /\ Q (.bl (if neg then !(!(Builtin.Str.occurrences j i 0 j.length 1).isEmpty) else !(Builtin.Str.occurrences j i 0 j.length 1).isEmpty)) H
theorem op_inA : OpR X (compareOp .In) (rInA X.kw false) := op_in_seq.or op_in_str
theorem op_ninA : OpR X (compareOp .NotIn) (rInA X.kw true) := op_notIn_seq.or op_notIn_str
theorem ok_in {K : KW} {neg : Bool} : OkR K (rInA K neg) (pE K) (fIn neg) := by
  intro F H x y dx dy d Q s rx ry e k
  have seq : ∀ {v : V} {ds : List D} {vs ws : List V} {a : Addr}, toV dx = some v -> toVs ds = some vs -> Rps K F ds ws -> y = .ref a -> (SqL K H a ws ∨ SqT K H a ws) -> d = .bl (if neg then !inV v vs else inV v vs) -> rInA K neg x y H Q := by
    intro v ds vs ws a h1 h2 h3 h4 h5 h6
    obtain ⟨e2, f2⟩ := toVs_rps h2 h3
    have hx : x = v /\ flatV v = true := by
      cases dx with
      | non => cases h1; exact ⟨rx.non, rfl⟩
      | bl b => cases h1; exact ⟨rx.bl, rfl⟩
      | int b => cases h1; exact ⟨rx.int, rfl⟩
      | str b => cases h1; exact ⟨rx.str, rfl⟩
      | _ => cases h1
    subst e2
    subst h6
    exact .inl ⟨a, ws, h4, h5, by rw [hx.1]; exact hx.2, f2, by rw [hx.1]; exact k _ F H (.refl s) rfl⟩
  have two : ∀ {ds : List D}, ((toV dx).bind fun v => (toVs ds).map fun vs => D.bl (if neg then !inV v vs else inV v vs)) = some d -> ∃ v vs, toV dx = some v /\ toVs ds = some vs /\ d = .bl (if neg then !inV v vs else inV v vs) := by
    intro ds h
    cases q1 : toV dx with
    | none => rw [q1] at h; cases h
    | some v =>
      cases q2 : toVs ds with
      | none => rw [q1, q2] at h; cases h
      | some vs => rw [q1, q2] at h; cases h; exact ⟨v, vs, rfl, rfl, rfl⟩
  cases dy with
  | lst ds =>
    obtain ⟨v, vs, q1, q2, q3⟩ := two (ds := ds) (by cases dx <;> exact e)
    obtain ⟨a, ws, h1, h2, h3⟩ := ry.lst s
    exact seq q1 q2 h3 h1 (.inl (.of h2)) q3
  | tup ds =>
    obtain ⟨v, vs, q1, q2, q3⟩ := two (ds := ds) (by cases dx <;> exact e)
    obtain ⟨a, ws, h1, h2, h3⟩ := ry.tup s
    exact seq q1 q2 h3 h1 (.inr (.of h2)) q3
  | str j =>
    cases dx with
    | str i => cases e; exact .inr ⟨_, _, rx.str, ry.str, k _ F H (.refl s) rfl⟩
    | _ => cases e
  | _ => cases dx <;> cases e
theorem rps_strs {K : KW} {F : Hp} : ∀ (ys : List Str), Rps K F (ys.map D.str) (ys.map V.str)
  | [] => rfl
  | y :: ys => ⟨_, _, rfl, rfl, rps_strs ys⟩
end
section
variable {ρ : EnvD} {g : EnvD -> Option D} {ds : List D} {a : Int} {u v : Bool} {p q : Str} {neg : Bool}
@[simp] theorem ev_gItS : gItS g ρ = (g ρ).bind fun d => match d with | .str z => some (chD z) | _ => none := rfl
@[simp] theorem ev_fInS : fIn neg (.str p) (.str q) = some (.bl (if neg then !(!(Builtin.Str.occurrences q p 0 q.length 1).isEmpty) else !(Builtin.Str.occurrences q p 0 q.length 1).isEmpty)) := rfl
end
section
variable {K : KW} {F : Hp}
end
def pK (K : KW) : Post (List (Key × D)) := fun _ _ F' H' kvs v => ∃ a ob vs, v = .ref a /\ H' a = some (DX K.w a ob vs) /\ Rkv K F' kvs vs
section
variable {X : Cx} {B : Bs} {e a b c o i : Expr} {es : List Expr} {pos p apos cpos pos' : Pos} {g ga gi gv' : EnvD -> Option D} {gk gk2 : EnvD -> Option (List (Key × D))} {gs gxs : EnvD -> Option (List D)} {x : Str}
end
section
variable {X : Cx} {B : Bs} {e a b c o i : Expr} {es : List Expr} {pos p apos cpos pos' : Pos} {g ga gi gv' : EnvD -> Option D} {gk gk2 : EnvD -> Option (List (Key × D))} {gs : EnvD -> Option (List D)} {gxs : EnvD -> Option (List En)} {x : Str}
variable {k n : Nat} {m : List En -> Option En}
end
section
variable {K : KW} {F : Hp}
end
section
variable {X : Cx} {B : Bs} {e a b c o i tg : Expr} {es : List Expr} {pos p apos cpos pos' : Pos} {g ga gi gv' : EnvD -> Option D} {gk gk2 : EnvD -> Option (List (Key × D))} {gs : EnvD -> Option (List D)} {x : Str}
theorem rps_at {K : KW} {F : Hp} : ∀ {ds : List D} {vs : List V}, ds.length = vs.length -> (∀ (j : Nat) d v, ds[j]? = some d -> vs[j]? = some v -> Rp K F d v) -> Rps K F ds vs
  | [], [], _, _ => rfl
  | [], _ :: _, h, _ => by simp at h
  | _ :: _, [], h, _ => by simp at h
  | d :: ds, v :: vs, h, k => ⟨v, vs, rfl, k 0 d v rfl rfl, rps_at (by simpa using h) fun j y w h1 h2 => k (j + 1) y w (by simpa using h1) (by simpa using h2)⟩
end
section
variable {X : Cx} {B : Bs} {e a b c o i tg : Expr} {es : List Expr} {pos p apos cpos pos' : Pos} {g ga gi gv' : EnvD -> Option D} {gk gk2 : EnvD -> Option (List (Key × D))} {gs : EnvD -> Option (List D)} {x : Str}
end
def without (H : Hp) (a : Addr) : Hp := fun b => if b = a then none else H b
def lSp (K : KW) (n : Nat) (m : Addr -> List (Key × D) -> List En -> Option (List (Key × D))) : Sp := fun vs H Q _ =>
  ∃ F kvs xs kvs' a ob ws us, vs = .ref a :: us /\ Same F H /\ F a = none /\ H a = some (DX K.w a ob ws) /\ Rkv K F kvs ws /\ xs.length + 1 = n /\ Paired (fun x v => ArgE K F (without H a) x v) xs us /\ m a kvs xs = some kvs' /\
    ∀ F' H' ob' ws', Ext F (without H a) F' H' -> H' a = some (DX K.w a ob' ws') -> F' a = none -> Rkv K F' kvs' ws' -> Q .non H'
section
variable {P : Program} {w : World} {K : PySem.W.Frag} {mg : Str -> Option Value} {base : Heap}
structure Lx (P : Program) (w : World) (K : PySem.W.Frag) (mg : Str -> Option Value) (base : Heap) (x : Str) (k n : Nat) (m : List (Key × D) -> List En -> Option (List (Key × D))) : Prop where
  ex : ∃ f fd ps m', FnOk P w K mg base CX0 k f fd ps (lSp ⟨K, w⟩ n m') /\ mg x = some (.ref f) /\ PySem.W.keepIn K (.ref f) = true /\ Binds K fd ps [] /\ ∀ a kvs xs, xs.length + 1 = n -> m' a kvs xs = m kvs xs
end
section
variable {X : Cx} {B : Bs} {es : List Expr} {pos p p1 cpos : Pos} {gxs : EnvD -> Option (List En)} {x y : Str} {k n : Nat} {m : List (Key × D) -> List En -> Option (List (Key × D))}
end
def fRep : D -> D -> Option (List D)
  | .lst ds, .int k => if k.natAbs <= 100000 /\ ds.length * k.toNat <= TOP then some (List.replicate k.toNat ds).flatten else none
  | _, _ => none
theorem Rps.rep {K : KW} {F : Hp} {ds : List D} {vs : List V} (r : Rps K F ds vs) : ∀ n, Rps K F (List.replicate n ds).flatten (List.replicate n vs).flatten
  | 0 => rfl
  | n + 1 => by
    rw [List.replicate_succ, List.flatten_cons, List.replicate_succ, List.flatten_cons]
    exact r.append (Rps.rep r n)
theorem ok_rep {K : KW} : OkR K rRep (pA K) fRep := by
  intro F H x y dx dy d Q s rx ry e k
  unfold fRep at e
  split at e
  · rename_i ds n
    split at e
    · rename_i hc
      cases e
      obtain ⟨a, vs, rfl, h1, h2⟩ := rx.lst s
      cases ry.int
      refine ⟨a, n, vs, rfl, rfl, h1, by omega, by omega, top_line (by rw [<- h2.length]; exact hc.2), fun p hp => k _ F _ (.new s hp) ⟨p, _, rfl, hp, upd_same, s.free hp, h2.rep _⟩⟩
    · cases e
  · cases e
section
variable {X : Cx} {B : Bs} {a b : Expr} {pos : Pos} {ga gb : EnvD -> Option D}
theorem da_rep (ha : DR X B a ga) (hb : DR X B b gb) : DA X B (.BinOp a .Mult b pos) (g2 fRep ga gb) := da_op op_rep ok_rep ha hb
end
section
variable {ρ : EnvD} {i j n : Nat} {d : D} {ds : List D} {kvs : List (Key × D)} {oa : Option Addr} {gi g : EnvD -> Option D} {gk gk2 : EnvD -> Option (List (Key × D))} {gs : EnvD -> Option (List D)}
@[simp] theorem ev_fRep {k : Int} : fRep (.lst ds) (.int k) = if k.natAbs <= 100000 /\ ds.length * k.toNat <= TOP then some (List.replicate k.toNat ds).flatten else none := rfl
end
end Dv
namespace L4
open PySem PySem.Spec L2 L3
open PyProof.Rows hiding St
end L4
namespace Dv
open PySem PySem.Spec L2 L3 L4
open PyProof.Rows hiding St
section
variable {X : Cx} {B : Bs} {e a b c o i tg st : Expr} {es elts : List Expr} {pos p p2 apos cpos pos' tpos : Pos} {tk : Nat} {g ga gi gv' : EnvD -> Option D} {gk gk2 : EnvD -> Option (List (Key × D))} {gs : EnvD -> Option (List D)} {gxs : EnvD -> Option (List En)} {x : Str}
def mN (m : List En -> Option En) : List En -> Option En := fun xs => m (xs ++ [.val .non])
end
structure FunD (K : PySem.W.Frag) (x qual : Str) (st : Stmt) (f : Addr) (fd : FuncData) : Prop where
  ex : ∃ (oc dV : Value) (od : Option Addr) (kV doc pm : Value) (an : Option Addr) (cdv ct : Value) (osl : Array (Option Value)),
    fd = PySem.W.fnOf x qual (defArgs st) (defBody st) (defScope st) dV kV doc pm an cdv ct /\ K.lookup f = some ⟨oc, od, .func fd, osl⟩ /\ PySem.W.codeIn K cdv qual = true
  kp : PySem.W.keepIn K (.ref f) = true
section
variable {P : Program} {w : World} {K : PySem.W.Frag} {mg : Str -> Option Value} {base : Heap}
structure FxN (P : Program) (w : World) (K : PySem.W.Frag) (mg : Str -> Option Value) (base : Heap) (x : Str) (k n : Nat) (m : List En -> Option En) : Prop where
  ex : ∃ f fd ps, FnOk P w K mg base CX0 k f fd ps (pSp ⟨K, w⟩ n (len? n m)) /\ mg x = some (.ref f) /\ PySem.W.keepIn K (.ref f) = true /\ Binds K fd ps [.none]
end
section
variable {X : Cx} {B : Bs} {e : Expr} {es : List Expr} {pos p : Pos} {gxs : EnvD -> Option (List En)} {x : Str} {k n : Nat} {m : List En -> Option En}
end
section
variable {ρ : EnvD} {g gi : EnvD -> Option D} {m : List En -> Option En} {xs : List En}
@[simp] theorem ev_mN : mN m xs = m (xs ++ [.val .non]) := rfl
end
section
variable {X : Cx} {B : Bs} {e c tg iter : Expr} {pos p1 p2 : Pos} {ge : EnvD -> Option D} {t : EnvD -> Option Bool} {gi : EnvD -> Option (List D)} {gbd : SD}
end
end Dv
namespace L4
open PySem PySem.Spec L2 L3
open PyProof.Rows hiding St
section
variable {prog : Program} {w : World} {A : Around} {E : Value -> Shared -> Prop} {s : Shared}
end
section
variable {X : Cx} {o a b : Expr} {pos p2 : Pos} {to ta tb : TE}
end
end L4
namespace Dv
open PySem PySem.Spec L2 L3 L4
open PyProof.Rows hiding St
section
variable {X : Cx} {B : Bs} {e ae be : Expr} {p p2 tpos pos : Pos} {ga gb : EnvD -> Option D} {gl : EnvD -> Option (List D)} {x : Str}
end
section
variable {X : Cx} {B : Bs} {hb : Hp -> Hp} {e a b c o tg : Expr} {es : List Expr} {pos p p2 apos cpos : Pos} {g ga gb go : EnvD -> Option D} {gs : EnvD -> Option (List D)} {x : Str}
end
section
variable {X : Cx} {B : Bs} {hb : Hp -> Hp} {e a b c o tg : Expr} {es : List Expr} {pos p p2 apos cpos : Pos} {g ga gb go : EnvD -> Option D} {gs : EnvD -> Option (List D)} {x : Str}
end
end Dv
namespace L4
open PySem PySem.Spec L2 L3
open PyProof.Rows hiding St
section
variable {prog : Program} {w : World} {A : Around} {E : Value -> Shared -> Prop} {s : Shared} {T : String} {r d : Addr} {n : Nat} {P : Nat -> Value -> Prop} {OK : Heap -> Prop}
end
end L4
namespace Dv
open PySem PySem.Spec L2 L3 L4
open PyProof.Rows hiding St
section
variable {X : Cx} {B : Bs} {o : Expr} {pos p : Pos} {gk : EnvD -> Option (List (Key × D))} {x : Str}
end
section
variable {K : KW} {B : Bs} {F H : Hp} {σ : St} {ρ : EnvD}
end
section
variable {X : Cx} {B : Bs} {tg e ck : Expr} {es : List Expr} {x y nm : Str} {pos p2 p3 p4 p5 apos cpos : Pos} {id : String} {r : V -> List V -> Hp -> VK -> Prop} {f : List D -> List D -> Option (List D)} {gs : EnvD -> Option (List D)} {dd : List D}
end
end Dv
namespace L4
open PySem PySem.Spec L2 L3
open PyProof.Rows hiding St
section
variable {prog : Program} {w : World} {A : Around} {E : Value -> Shared -> Prop} {s : Shared}
end
section
variable {X : Cx} {a : Expr} {ta : TA} {p p2 pos pos2 : Pos}
end
end L4
namespace Dv
open PySem PySem.Spec L2 L3 L4
open PyProof.Rows hiding St
section
variable {X : Cx} {B : Bs} {a : Expr} {p p2 pos pos2 : Pos} {gs : EnvD -> Option (List D)}
end
section
variable {X : Cx} {B : Bs} {e : Expr} {es : List Expr} {pos p : Pos} {g : EnvD -> Option En} {gxs : EnvD -> Option (List En)} {x : Str}
def scal : D -> Bool
  | .int _ => true
  | .bl _ => true
  | .non => true
  | .str _ => true
  | _ => false
variable {k n : Nat} {m : List En -> Option En}
end
section
variable {K : KW} {B : Bs} {F H : Hp} {σ : St} {ρ : EnvD}
end
section
variable {X : Cx} {B : Bs} {e ck ck0 ck1 : Expr} {x y z : Str} {pos pos1 pos2 p p1 p2 p3 p4 p5 p6 p7 pos' apos cpos : Pos} {g : EnvD -> Option D}
end
section
variable {X : Cx} {B : Bs} {e : Expr} {es : List Expr} {pos p : Pos} {gxs : EnvD -> Option (List En)} {x : Str} {k n : Nat} {m : List En -> Option En}
end
section
variable {X : Cx} {B : Bs} {e : Expr} {pos : Pos} {g : EnvD -> Option D}
end
section
variable {X : Cx} {B : Bs} {tg iter elt : Expr} {ifs : List Expr} {pos : Pos} {gi : EnvD -> Option OT}
end
section
variable {X : Cx} {B : Bs} {o : Expr} {apos cpos pos p : Pos} {x : Str} {td : TE}
end
end Dv
namespace L6
open PySem PySem.Spec L2 L3 L4
open PyProof.Rows hiding St
def tupO (vs : List Value) : Obj := { cls := .type "tuple", data := .seq vs.toArray }
def excO (C t : Addr) : Obj := { cls := .ref C, data := .fields #[.ref t, .none, .none, .none, .bool false, .none] }
def made (H : Heap) (C : Addr) (vs : List Value) : Heap := (H.push (tupO vs)).push (excO C H.objs.size)
section
variable {H : Heap} {C M : Addr} {vs : List Value}
theorem made_old {a : Addr} {o : Obj} (q : H.get? a = some o) : (made H C vs).get? a = some o := Heap.get?_push_of_some _ (Heap.get?_push_of_some _ q)
theorem made_new : (made H C vs).get? (H.objs.size + 1) = some { cls := .ref C, data := .fields #[.ref H.objs.size, .none, .none, .none, .bool false, .none] } := by unfold made excO tupO; heap_get
theorem made_ns {m : Str -> Option Value} (q : H.Ns M m) : (made H C vs).Ns M m := by
  obtain ⟨o, x, y, z, r⟩ := q
  exact ⟨o, x, y, made_old z, r⟩
end
section
variable {P : Program} {w : World} {A : Around} {E : Value -> Shared -> Prop} {H : Heap} {g : Array GenState} {dr : Drawn} {t : Nat} {os : OsState} {C N fI : Addr} {oI : Obj} {vs : List Value} {mN : Str -> Option Value}
variable {nm q : Str} {bs bm bb : List Value} {hd : Bool} {sn : List Str} {sb : List Value} {ab : Bool} {col : Option Bool} {dl : Option Addr} {k0 k1 k2 k3 k5 : Option Value} {b0 nid iid : String}
end
def Trc (h : Heap) (e : Addr) (c : Value) (dd : Option Addr) (a0 : Value) (T : Option Addr) : Prop :=
  ∃ oe vs, h.get? e = some oe /\ oe.cls = c /\ oe.dict = dd /\ oe.data = .fields vs /\ vs[0]? = some a0 /\ (T = none -> vs[1]? = some .none) /\
    ∀ t, T = some t -> vs[1]? = some (.ref t) /\ t ≠ e /\ ∃ oT ts, h.get? t = some oT /\ oT.data = .fields ts /\ ts[3]? = some .none
def Kpt (S : List Addr) (e : Addr) (T : Option Addr) (h h' : Heap) : Prop :=
  ∀ b o, b ≠ e -> T ≠ some b -> h.get? b = some o -> (b ∉ S -> h'.get? b = some o) /\ ∃ sl, h'.get? b = some { o with slots := sl }
theorem dict_mapFields (f : Array Value -> Array Value) (o : Obj) : (Obj.mapFields f o).dict = o.dict := by
  obtain ⟨c, d, dt, sl⟩ := o
  cases dt <;> rfl
section
variable {M : Model} {A : Around} {E : Value -> Shared -> Prop} {s : Shared}
end
def CX1 (P : Program) (w : World) : CXT := fun outer H s E e s' => ∃ ea C dd a0 T H', e = .ref ea /\ s'.os = s.os /\ AllBare s'.gens /\ Un (frs outer) [] H H' s.heap s'.heap /\ HOk P w H' s'.heap /\
  Trc s'.heap ea C dd a0 (some T) /\ s.heap.objs.size <= ea /\ s.heap.objs.size <= T /\ H' ea = none /\ H' T = none /\ E C dd H'
section
variable {P : Program} {w : World} {K : PySem.W.Frag} {mg : Str -> Option Value} {base : Heap} {N : List Str} {qual : Str} {scope : Scope} {f : Addr} {cd : Value} {A : Around} {outer : List Env} {s : Shared} {H : Hp} {E : XK}
end
section
variable {prog : Program} {w : World} {A : Around} {E : Value -> Shared -> Prop} {s : Shared} {K : PySem.W.Frag} {x dx C f : Addr} {mA : Str -> Option Value} {name : Str} {v : Value}
abbrev vB : List Value := [.type "ValueError", .type "Exception", .type "BaseException", .type "object"]
end
structure XC (K : PySem.W.Frag) (C HE fI : Addr) (fd : Str) : Prop where
  cls : ∃ dd cd k0 k1 k2 k3 k5 bm, K.lookup C = some ⟨.type "type", dd, .cls cd, #[k0, k1, k2, k3, some (.builtin "ValueError.__new__"), k5]⟩ /\ cd.mro = .ref C :: bm /\ cd.hasDel = false /\
    PySem.W.tailIn K vB bm = true /\ PySem.W.nsOkIn K cd.ns = true /\ PySem.W.nsIn K cd.ns "__init__" = some (some (.ref fI))
  fn : ∃ o, K.lookup fI = some o /\ o.cls = .type "function"
  kp : PySem.W.keepIn K (.ref C) = true
  sa : PySem.W.findIn K (.ref C) "__setattr__" = some (some (.builtin "object.__setattr__"))
  tk : PySem.W.takerIn K C fd = some none
  hd : PySem.W.hasDictIn K C = true
  sub : PySem.W.subIn K (.ref C) (.type "BaseException") = some true
  subH : PySem.W.subIn K (.ref C) (.ref HE) = some true
  ga : PySem.W.findIn K (.ref C) "__getattribute__" = some (some (.builtin "BaseException.__getattribute__"))
  gt : PySem.W.findIn K (.ref C) "__getattr__" = some none
  na : PySem.W.findIn K (.ref C) fd = some none
  rd : PySem.W.readsIn K HE (.type "type") = true
  fc : PySem.W.findCls K (.ref HE) (.type "type") "__init__" = some (.val (.builtin "ValueError.__init__"))
  sp : PySem.W.specialIn K (.ref HE) "__getattribute__" = some (some (.builtin "type.__getattribute__"))
section
variable {K : PySem.W.Frag} {C HE fI : Addr} {fd : Str} {h : Heap}
end
section
variable {prog : Program} {w : World} {A : Around} {E : Value -> Shared -> Prop} {h : Heap} {g : Array GenState} {d : Drawn} {t : Nat} {os : OsState}
variable {nm q : Str} {C N : Addr} {bs bm bmB : List Value} {hdct : Bool} {sn : List Str} {sub : List Value} {ab : Bool} {col : Option Bool} {dd : Option Addr} {k0 k1 k2 k3 k5 : Option Value} {B newId initId : String}
theorem base_init (F : ExcBaseFacts B newId initId bmB) (T : OwnTail h bmB bm) {e ta : Addr} {rest : List Value} {Q : Value -> Shared -> Prop}
    (hC : h.get? C = some (excClassObj nm q C N bs bm hdct sn sub ab col dd k0 k1 k2 k3 k5 newId)) (he : h.get? e = some { cls := .ref C, data := .fields #[.ref ta, .none, .none, .none, .bool false, .none] }) (hrest : rest.length <= sizeLine)
    (hq : ∀ h', h'.get? e = some { cls := .ref C, data := .fields #[.ref h.objs.size, .none, .none, .none, .bool false, .none] } -> (∀ b o, b ≠ e -> h.get? b = some o -> h'.get? b = some o) -> Q .none ⟨h', g, d, t, os⟩) :
    wpAny (model prog w) A (call (.builtin initId) (.ref e :: rest)) Q E ⟨h, g, d, t, os⟩ := by
  refine wpAny_call (codeAny_call_builtin F.init.plain F.initEntry (wpAny_check_init_subT F T hC he rfl ?_))
  wp_walk
  refine hq _ ?_ fun b o hb q => ?_
  · exact Heap.get?_update_self _ (Heap.get?_push_of_some _ he) rfl
  · rw [Heap.get?_update_other _ _ (Ne.symm hb)]
    exact Heap.get?_push_of_some _ q
end
def ExO (e C t : Addr) (dd : Option Addr) : HO := .ext fun h => h.get? e = some { cls := .ref C, dict := dd, data := .fields #[.ref t, .none, .none, .none, .bool false, .none] }
theorem exO_ok {P : Program} {w : World} {H : Hp} {h : Heap} {e C t : Addr} {dd : Option Addr} (q : h.get? e = some { cls := .ref C, dict := dd, data := .fields #[.ref t, .none, .none, .none, .bool false, .none] }) : ObjOk P w H h e (ExO e C t dd) :=
  ⟨q, ⟨_, q⟩, fun _ _ p k => k _ p⟩
def xiSp (C : Addr) (fd : Str) : Sp := fun vs H Q _ => ∃ e v t, vs = [.ref e, v] /\ H e = some (ExO e C t none) /\ ∀ t' dx, H dx = none -> dx ≠ e -> Q .non (upd (upd H e (ExO e C t' (some dx))) dx (.xd [(fd, v)]))
section
variable {X : Cx} {C HE fI : Addr} {fd x : Str} {pos p apos pa pb pos' : Pos} {a b : Expr} {ta tb : TE}
end
def del (H : Hp) (e : Addr) : Hp := fun b => if b = e then none else H b
theorem del_ne {H : Hp} {e b : Addr} (h : b ≠ e) : del H e b = H b := by unfold del; rw [if_neg h]
theorem del_same {H : Hp} {e : Addr} : del H e e = none := by unfold del; rw [if_pos rfl]
theorem inv_drop {X : Cx} {pins : List (Addr × Obj)} {σ : St} {H : Hp} {s : Shared} {e : Addr} {φ : Heap -> Prop} (I : Inv X pins σ H s) (he : H e = some (.ext φ)) : Inv X pins σ (del H e) s := by
  have no : ∀ {b : Addr}, H b = none -> del H e b = none := fun {b} n => by
    by_cases q : b = e
    · rw [q]; exact del_same
    · rw [del_ne q]; exact n
  have ke : ∀ {b : Addr} {u : HO}, H b = some u -> (∀ φ, u ≠ .ext φ) -> del H e b = some u := fun {b u} n d => by
    have : b ≠ e := fun z => by rw [z, he] at n; cases n; exact d _ rfl
    rw [del_ne this]; exact n
  have u := I.base
  refine ⟨I.ok, I.os, I.bare, ⟨u.keep, u.slot, fun b o q n hx => no (u.free b o q n hx), u.there, fun b xs q => ke (u.tups b xs q) (fun _ z => nomatch z), fun b o xs q => ke (u.frzs b o xs q) (fun _ z => nomatch z), fun b ps q => ?_⟩, I.loc, I.cell, no I.free, fun x c q => no (I.freeC x c q), fun p hp => ?_, fun a o q => ?_, I.len⟩
  · obtain ⟨m, z⟩ := u.tbls b ps q
    exact ⟨m, ke z fun _ z => nomatch z⟩
  · obtain ⟨a1, a2, a3⟩ := I.pin p hp
    exact ⟨a1, no a2, a3⟩
  · have hne : a ≠ e := fun z => by rw [z, del_same] at q; cases q
    rw [del_ne hne] at q
    exact (I.hok a o q).stay (fun b u _ z => z) (fun b z => ke z fun _ z => nomatch z) fun b xs z => ke z fun _ z => nomatch z
section
variable {M : Model} {A : Around} {E : Value -> Shared -> Prop} {s : Shared} {env : Env}
variable {nm q : Str} {C N : Addr} {bs bm : List Value} {hdct : Bool} {sn : List Str} {sub : List Value} {ab : Bool} {col : Option Bool} {dd : Option Addr} {k0 k1 k2 k3 k5 : Option Value} {newId : String}
theorem raise_made {x : Sem Value} {Q : Flow -> Shared -> Prop} (hbase : bm.contains (.type "BaseException") = true) (hh : A.handled = none)
    (h : wpAny M A x (fun v s₁ => ∃ e t ed, v = .ref e /\ s₁.heap.get? C = some (excClassObj nm q C N bs bm hdct sn sub ab col dd k0 k1 k2 k3 k5 newId) /\
      s₁.heap.get? e = some { cls := .ref C, dict := ed, data := .fields #[.ref t, .none, .none, .none, .bool false, .none] } /\ E (.ref e) s₁) E s) :
    wpAny M A (raiseStmt env (some x) none) Q E s := by
  have hcB : (Value.ref C :: bm).contains (.type "BaseException") = true := by rw [List.contains_cons, hbase, Bool.or_true]
  unfold raiseStmt
  refine wpAny_bind (wpAny_mono h (fun v s₁ h₁ => ?_) fun _ _ x => x)
  obtain ⟨e, t, ed, rfl, hC, he, hE⟩ := h₁
  obtain ⟨hp, g, d, tk, os⟩ := s₁
  repeat (first | with_reducible refine wpAny_loadPart_at he ?_ | with_reducible refine wpAny_loadPart_at hC ?_ | (with_reducible refine wpAny_isSubtype_exc hC ?_; rw [hcB]) | wp_step)
  exact wpAny_raiseNew_none hh hE
end
section
variable {X : Cx} {C HE fI : Addr} {fd x : Str} {pos p cpos : Pos} {a : Expr} {t : TA} {k : Nat} {f0 : FuncData} {ps : List Str}
end
section
variable {P : Program} {w : World} {K : PySem.W.Frag} {mg : Str -> Option Value} {base : Heap} {N : List Str} {qual : Str} {scope : Scope} {f : Addr} {cd : Value} {A : Around} {outer : List Env} {s0 : Shared} {H0 : Hp} {E : XK}
variable {X : Cx} {C HE fI : Addr} {fd x : Str} {pos p cpos : Pos} {a : Expr} {t : TA} {k : Nat} {f0 : FuncData} {ps : List Str}
end
theorem typ_of {M : Model} {h : Heap} {e C : Addr} {oe : Obj} (he : h.get? e = some oe) (hc : oe.cls = .ref C) : PySem.W.Looks M h (typeOf (.ref e)) (.ref C) := by
  intro A' Q' E' s' k q
  unfold typeOf
  refine wpAny_bind (wpAny_loadPart (k _ _ he) ?_)
  rw [hc]
  exact wpAny_pure q
section
variable {K : PySem.W.Frag} {e C M : Addr}
structure XM (K : PySem.W.Frag) (C M : Addr) : Prop where
  sub : PySem.W.subIn K (.ref C) (.ref M) = some true
  nt : PySem.W.instIn K (.ref M) (.type "tuple") = some false
  cls : (PySem.W.clsIn K M).isSome = true
  exc : PySem.W.subIn K (.ref M) (.type "BaseException") = some true
theorem matches_exc {prog : Program} {w : World} {A : Around} {E : Value -> Shared -> Prop} {s : Shared} {Q : Bool -> Shared -> Prop} {oe : Obj} (xm : XM K C M) (X : K.In s.heap) (he : s.heap.get? e = some oe) (hc : oe.cls = .ref C) (h : Q true s) :
    wpAny (model prog w) A (excMatches (.ref e) (.ref M)) Q E s := by
  obtain ⟨hh, g, d, t, os⟩ := s
  have L0 := PySem.W.looks_instIn (M := model prog w) X xm.nt
  have L1 := typ_of (M := model prog w) he hc
  have L2 := PySem.W.looks_subIn (M := model prog w) X xm.sub
  have L3 := PySem.W.looks_subIn (M := model prog w) X xm.exc
  have L4 : PySem.W.Looks (model prog w) hh (isType (.ref M)) true := by
    have z0 := xm.cls
    unfold PySem.W.clsIn at z0
    split at z0
    · rename_i c' d' cd' sl' ho
      intro A' Q' E' s' k q
      unfold isType loadHead
      exact wpAny_bind (wpAny_loadPart (k _ _ (X _ _ ho)) (wpAny_pure q))
    · cases z0
  unfold excMatches isExcClass
  repeat (first | with_reducible refine L0.at ?_ | with_reducible refine L1.at ?_ | with_reducible refine L2.at ?_ | with_reducible refine L3.at ?_ | with_reducible refine L4.at ?_ | wp_step)
  all_goals first | exact h | skip
end
section
variable {X : Cx} {pins : List (Addr × Obj)} {σ : St} {H : Hp} {s : Shared} {h' : Heap} {e : Addr} {T : Option Addr}
def Own (X : Cx) (pins : List (Addr × Obj)) (H : Hp) (b : Addr) : Prop := X.s₀.heap.objs.size <= b /\ b ≠ X.env.locals /\ (∀ x c, X.env.cells.lookup x = some c -> c ≠ b) /\ (∀ p ∈ X.pn ++ pins, p.1 ≠ b) /\ H b = none /\ b ∉ X.fs
theorem own_new {s1 : Shared} {H1 : Hp} (I : Inv X pins σ H1 s1) {b : Addr} (h : s1.heap.objs.size <= b) (n : H b = none) : Own X pins H b := by
  refine ⟨Nat.le_trans I.sz h, Nat.ne_of_gt (Nat.lt_of_lt_of_le I.lt h), fun x c q => ?_, fun p hp => ?_, n, I.nofs h⟩
  · obtain ⟨v, o, ho, _⟩ := I.cell x c q
    exact Nat.ne_of_lt (Nat.lt_of_lt_of_le (Heap.lt_size ho) h)
  · exact Nat.ne_of_lt (Nat.lt_of_lt_of_le (Heap.lt_size (I.pin p hp).1) h)
theorem inv_kpt (I : Inv X pins σ H s) (K : Kpt (frs X.stack) e T s.heap h') (h1 : Own X pins H e) (h2 : ∀ t, T = some t -> Own X pins H t) : Inv X pins σ H { s with heap := h' } := by
  have sub : ∀ b, b ∈ frs X.stack -> b = X.env.locals ∨ b ∈ X.fs := fun b hb => List.mem_cons.mp (I.stkSub b hb)
  have ne : ∀ b, b ∉ (e :: T.toList) -> b ≠ e /\ T ≠ some b := fun b hb => by
    refine ⟨fun z => hb (by rw [z]; exact .head _), fun z => hb ?_⟩
    rw [z]; exact .tail _ (.head _)
  have tr : ∀ b u, H b = some u -> b ≠ e /\ T ≠ some b := fun b u q => by
    constructor
    · intro z
      rw [z, h1.2.2.2.2.1] at q
      cases q
    · intro z
      have := (h2 b z).2.2.2.2.1
      rw [this] at q
      cases q
  refine I.step (g' := s.gens) (t' := s.toks) (d' := s.drawn) (ch := e :: T.toList) (fun b hb => ?_) (fun b o hL hf hc q n => ?_) (fun b o hL hf hc q n => ?_) (fun b o hc q n => n) (fun b o hc q => ?_) (fun _ _ q => q) (fun _ _ _ q => q) (fun b ps q => ⟨#[], by rw [q]; simp⟩) (fun m hm => ?_) (fun b u q => ?_) I.bare
  · have : Own X pins H b := by
      rcases List.mem_cons.mp hb with rfl | z
      · exact h1
      · exact h2 b (by cases T with | none => cases z | some t => simp at z; rw [z])
    exact ⟨.inr this.1, this.2.1, this.2.2.1, this.2.2.2.1⟩
  · obtain ⟨n1, n2⟩ := ne b hc
    exact (K b o n1 n2 q).1 fun z => (sub b z).elim hL hf
  · obtain ⟨n1, n2⟩ := ne b hc
    exact (K b o n1 n2 q).2
  · obtain ⟨n1, n2⟩ := ne b hc
    obtain ⟨sl, z⟩ := (K b o n1 n2 q).2
    exact ⟨_, z⟩
  · obtain ⟨o, es, ep, ho, r⟩ := hm
    obtain ⟨sl, z⟩ := (K _ o (Ne.symm h1.2.1) (fun z => (h2 _ z).2.1 rfl) ho).2
    exact ⟨_, es, ep, z, r⟩
  · refine (I.hok b u q).stay (fun c v hc z => ?_) (fun _ z => z) fun _ _ z => z
    have hn : ∃ u', H c = some u' := by
      rcases hc with rfl | z
      · exact ⟨u, q⟩
      · exact ⟨_, z⟩
    obtain ⟨u', hu⟩ := hn
    obtain ⟨n1, n2⟩ := tr c u' hu
    refine (K c v n1 n2 z).1 fun hf => ?_
    rw [I.stkFree c hf] at hu; cases hu
theorem flight_trc {M : Model} {A : Around} {E : Value -> Shared -> Prop} {c a0 : Value} {dd : Option Addr} {t : Addr} {Q : Unit -> Shared -> Prop} (ht : Trc s.heap e c dd a0 (some t))
    (h : ∀ h', Trc h' e c dd a0 (some t) -> Kpt [] e (some t) s.heap h' -> Q () { s with heap := h' }) : wpAny M A (setFlight (.ref e) none) Q E s := by
  obtain ⟨oe, vs, he, rfl, rfl, hd, h0, hn, hs⟩ := ht
  obtain ⟨h1, hte, oT, ts, hT, hdT, h3⟩ := hs t rfl
  have sz : 3 < ts.size := (Array.getElem?_eq_some_iff.mp h3).1
  unfold setFlight
  refine wpAny_bind (wpAny_field he hd h1 ?_)
  rw [if_pos (show (Value.ref t != Value.none) = true from by simp)]
  refine wpAny_setField hT hdT sz (h _ ⟨oe, vs, ?_, rfl, rfl, hd, h0, hn, fun t' q => ?_⟩ fun b o hb hbt q => ?_)
  · rw [Heap.get?_update_other _ _ hte]; exact he
  · cases q
    refine ⟨h1, hte, _, _, Heap.get?_update_self _ hT (Obj.isFreed_of_fields (Obj.data_mapFields hdT _)), Obj.data_mapFields hdT _, ?_⟩
    rw [Array.getElem?_setIfInBounds_self_of_lt sz]; rfl
  · have : (s.heap.update t (Obj.mapFields (·.setIfInBounds 3 ((none : Option Addr).elim Value.none fun f => rawInt f)))).get? b = some o := by
      rw [Heap.get?_update_other _ _ (fun z => hbt (by rw [z]))]; exact q
    exact ⟨fun _ => this, o.slots, this⟩
theorem Kpt.wide {S S' : List Addr} {h h' : Heap} (K : Kpt S e T h h') (hs : ∀ b ∈ S, b ∈ S') : Kpt S' e T h h' := fun b o n1 n2 q => ⟨fun hb => (K b o n1 n2 q).1 fun z => hb (hs b z), (K b o n1 n2 q).2⟩
theorem unbind_ok {M : Model} {A : Around} {E : Value -> Shared -> Prop} {i : Nat} {n : Str} {pos : Pos} {Q : Unit -> Shared -> Prop} (I : Inv X pins σ H s) (hN : X.N.Nodup) (hi : X.N[i]? = some n) (hl : X.env.scope.names.lookup n = some .local)
    (h : ∀ s', Inv X pins (σ.set i none) H s' -> Q () s') : wpAny M A (do bindName X.env n .none; unbindBehindTheSuite X.env n pos) Q E s := by
  refine wpAny_bind (wpAny_bindName (store_ok (v := .non) I hN hi (.inl hl) rfl (fun s1 I1 => ?_) (.inr hl)))
  have hiσ : i < σ.length := by rw [I.len]; exact (List.getElem?_eq_some_iff.mp hi).1
  obtain ⟨m, hn, hlk⟩ := id I1.loc
  have hcls : (X.env.scope.kind == .class || (X.env.scope.kind == .module && X.env.locals != X.env.globals)) = false := by rw [I.ok.kind]; rfl
  obtain ⟨u, ru, look⟩ := hlk i n .non hi (List.getElem?_set_self hiσ) (.inl hl)
  have hm : m n = some u := by
    rcases look with ⟨_, z⟩ | ⟨z, _⟩
    · exact z
    · have z' : X.env.scope.names.lookup n = some .cell ∨ X.env.scope.names.lookup n = some .free := z
      rw [hl] at z'
      rcases z' with z' | z' <;> cases z'
  unfold unbindBehindTheSuite
  refine wpAny_onRaise (wpAny_unbindName_local hl hn hm hcls fun h' w hn' hs => h _ ?_)
  obtain ⟨oL, _, _, hoL, _⟩ := id hn
  have cne := I1.cne
  refine ⟨I1.ok, I1.os, I1.bare, ⟨fun b o e n hb hx => ?_, fun b o e n hb hx => ?_, I1.base.free, fun b o e hx => ?_, I1.base.tups, I1.base.frzs, I1.base.tbls⟩, ⟨_, hn', fun j y v' e1 e2 e3 => ?_⟩, fun y c e => ?_, I1.free, I1.freeC, fun p hp => ?_, fun b ob e => ?_, by simpa using I.len⟩
  · exact (hs.2 b (Nat.ne_of_lt (Nat.lt_of_lt_of_le (Heap.lt_size e) I1.ok.above))).trans (I1.base.keep b o e n hb hx)
  · obtain ⟨sl, e1⟩ := I1.base.slot b o e n hb hx
    exact ⟨sl, (hs.2 b (Nat.ne_of_lt (Nat.lt_of_lt_of_le (Heap.lt_size e) I1.ok.above))).trans e1⟩
  · obtain ⟨o', e1⟩ := I1.base.there b o e hx
    exact ⟨o', (hs.2 b (Nat.ne_of_lt (Nat.lt_of_lt_of_le (Heap.lt_size e) I1.ok.above))).trans e1⟩
  · by_cases hj : j = i
    · subst hj
      rw [List.getElem?_set_self hiσ] at e2
      cases e2
    · rw [List.getElem?_set_ne (Ne.symm hj)] at e2
      obtain ⟨u', r', q⟩ := hlk j y v' e1 (by rw [List.getElem?_set_ne (Ne.symm hj)]; exact e2) e3
      refine ⟨u', r', ?_⟩
      rcases q with ⟨k, e⟩ | ⟨k, c, e, z⟩
      · refine .inl ⟨k, ?_⟩
        have : y ≠ n := fun e => hj (nodup_ix hN e1 (e ▸ hi))
        simp [this, e]
      · exact .inr ⟨k, c, e, z.sameBut hs (cne y c e)⟩
  · obtain ⟨w', z⟩ := I1.cell y c e
    exact ⟨w', z.sameBut hs (cne y c e)⟩
  · obtain ⟨e, n, ne, nf, d⟩ := I1.pin p hp
    exact ⟨(hs.2 p.1 ne).trans e, n, ne, nf, d⟩
  · refine (I1.hok b ob e).stay (fun c w' hc q => (hs.2 c ?_).trans q) (fun _ q => q) fun _ _ q => q
    rintro rfl
    have hf := I1.free
    rcases hc with rfl | hc
    · rw [hf] at e; cases e
    · rw [hf] at hc; cases hc
end
def cxE (X : Cx) (ea : Addr) (pn : List (Addr × Obj)) : Cx := { X with A := X.A.mark (some (.ref ea)), calm := false, pn := pn ++ X.pn, xe := fun _ _ => False }
section
variable {X : Cx} {pins : List (Addr × Obj)} {σ : St} {H : Hp} {s : Shared} {ea : Addr} {pn : List (Addr × Obj)}
theorem ok_in (ok : X.Ok) : (cxE X ea pn).Ok :=
  ⟨ok.mod, ok.kind, ok.glob, ok.blt, ok.above, ok.inj, ok.has, ok.cab, fun z => (nomatch z), ok.frames, ok.stk, ok.exf, ok.bs, ok.bsz, ok.noex, ok.exfs, ok.funs, ok.frf⟩
theorem inv_in (I : Inv X pins σ H s) (h : ∀ p ∈ pn, s.heap.get? p.1 = some p.2 /\ H p.1 = none /\ p.1 ≠ X.env.locals /\ p.1 ∉ X.fs /\ ∀ v, p.2.data ≠ .cell v) : Inv (cxE X ea pn) pins σ H s :=
  ⟨ok_in I.ok, I.os, I.bare, I.base, I.loc, I.cell, I.free, I.freeC, fun p hp => by
    have hp' : p ∈ (pn ++ X.pn) ++ pins := hp
    rw [List.append_assoc] at hp'
    rcases List.mem_append.mp hp' with z | z
    · exact h p z
    · exact I.pin p z, I.hok, I.len⟩
theorem inv_out (ok : X.Ok) (I : Inv (cxE X ea pn) pins σ H s) : Inv X pins σ H s :=
  ⟨ok, I.os, I.bare, I.base, I.loc, I.cell, I.free, I.freeC, fun p hp => I.pin p (by
    show p ∈ (pn ++ X.pn) ++ pins
    rw [List.append_assoc]; exact List.mem_append_right _ hp), I.hok, I.len⟩
end
section
variable {X : Cx} {C MC : Addr} {ie : Nat} {r : St -> Hp -> (St -> XK) -> Prop} {ts : Addr -> Addr -> TS} {body suite : List Stmt} {b0 : Stmt} {xM n : Str} {pM hpos pos : Pos}
end
section
variable {X : Cx} {C HE fI ea dx M2 : Addr} {oe : Obj} {fd n x y : Str} {ie iy : Nat} {pos p p2 p3 pos2 pos3 : Pos} {ta tb : TE}
end
section
variable {X : Cx} {k : Nat} {f : Addr} {f0 : FuncData} {ps : List Str} {sp : Sp} {x : Str} {pos p : Pos} {e : Expr} {es : List Expr} {t : TA} {st : Stmt} {rest : List Stmt} {E : XK}
theorem PA.nox {es : List Expr} {t : TA} (h : PA X.nox es t) : PA X es t := fun pos pins s σ H Q I hw =>
  wpAny_mono (h pos pins s σ H Q (I.wish _) hw) (fun _ _ ⟨v, H', I', r, q⟩ => ⟨v, H', I'.unwish, r, q⟩) fun _ _ z => False.elim z
theorem PS.nox {st : Stmt} {t : TS} (h : PS X.nox st t) : PS X st t := fun pins s σ H D I hw =>
  wpAny_mono (h pins s σ H D (I.wish _) hw) (fun _ _ q => q.unwish) fun _ _ z => False.elim z
end
end L6
namespace Dv
open PySem PySem.Spec L2 L3 L4 L6
open PyProof.Rows hiding St
def rSp (K : KW) (C : Addr) (fd : Str) (n : Nat) (m : List En -> Option D) : Sp := fun vs H _ E =>
  ∃ F xs d, Same F H /\ xs.length = n /\ Paired (fun x v => ArgE K F H x v) xs vs /\ m xs = some d /\ ∀ dx v F' H', Ext F H F' H' -> H' dx = some (.xd [(fd, v)]) -> Rp K F' d v -> E (.ref C) (some dx) H'
structure Rx (P : Program) (w : World) (K : PySem.W.Frag) (mg : Str -> Option Value) (base : Heap) (x : Str) (C : Addr) (fd : Str) (k n : Nat) (m : List En -> Option D) : Prop where
  ex : ∃ f f0 ps, FnOk P w K mg base (CX1 P w) k f f0 ps (rSp ⟨K, w⟩ C fd n m) /\ mg x = some (.ref f) /\ PySem.W.keepIn K (.ref f) = true /\ Binds K f0 ps []
section
variable {P : Program} {w : World} {K : PySem.W.Frag} {mg : Str -> Option Value} {base : Heap} {N : List Str} {qual : Str} {scope : Scope} {f : Addr} {cd : Value} {A : Around} {outer : List Env} {s0 : Shared} {H0 : Hp} {E : XK}
variable {X : Cx} {B : Bs} {C HE fI : Addr} {fd x : Str} {pos p cpos : Pos} {a e : Expr} {es : List Expr} {st : Stmt} {rest : List Stmt} {k n : Nat} {g : EnvD -> Option D} {gs : SD} {gxs : EnvD -> Option (List En)} {m : List En -> Option D} {f0 : FuncData} {ps : List Str}
end
section
variable {X : Cx} {B : Bs} {C HE fI MC M2 : Addr} {fd x : Str} {pos p cpos : Pos} {a e c : Expr} {es : List Expr} {rest sa sb : List Stmt} {k n : Nat} {g ga gb : EnvD -> Option D} {gt : EnvD -> Option Bool} {gxs : EnvD -> Option (List En)} {m : List En -> Option D}
theorem rep_drop {K : KW} {F : Hp} {σ : St} {H : Hp} {ρ : EnvD} {i : Nat} (r : Rep K B F σ H ρ) (h : ∀ x, ρ[i]? ≠ some (some x)) : Rep K B F (σ.set i none) H ρ := by
  have ne : ∀ {j : Nat} {x : En}, ρ[j]? = some (some x) -> j ≠ i := fun {j x} e z => by subst z; exact h x e
  refine ⟨r.ex, by simp [r.len], fun j x e => ?_, fun j l y z v w e1 e2 s1 s2 hne => ?_⟩
  · obtain ⟨v, h1, h2⟩ := r.ents j x e
    exact ⟨v, by rw [List.getElem?_set_ne (Ne.symm (ne e))]; exact h1, h2⟩
  · rw [List.getElem?_set_ne (Ne.symm (ne e1))] at s1
    rw [List.getElem?_set_ne (Ne.symm (ne e2))] at s2
    exact r.dj j l y z v w e1 e2 s1 s2 hne
variable {xM y n2 xI fx : Str} {ie iy i : Nat} {pM hpos pI pN pC pA pE' pY pK pB pF apos epos : Pos} {body : List Stmt} {nm : Str}
end
structure Exc (P : Program) (w : World) (K : PySem.W.Frag) (mg : Str -> Option Value) (base : Heap) (CT HE fI : Addr) (fd xT xH : Str) : Prop where
  xc : XC K CT HE fI fd
  xm : XM K CT CT
  xmH : XM K CT HE
  z : PySem.W.kitOne K (.ref CT) (.ref HE) = some true
  zT : PySem.W.kitOne K (.ref CT) (.ref CT) = some true
  mT : mg xT = some (.ref CT)
  mH : mg xH = some (.ref HE)
  ini : ∃ f0 ps, FnOk P w K mg base CX0 1 fI f0 ps (xiSp CT fd) /\ Binds K f0 ps []
section
variable {P : Program} {w : World} {K : PySem.W.Frag} {mg : Str -> Option Value} {base : Heap} {N : List Str} {qual : Str} {scope : Scope} {f : Addr} {cd : Value} {A : Around} {outer : List Env} {s0 : Shared} {H0 : Hp} {E : XK}
variable {B : Bs} {CT HE fI : Addr} {fd xT xH : Str} {pos p cpos : Pos} {a : Expr} {rest : List Stmt} {g : EnvD -> Option D}
theorem kit_same {K : PySem.W.Frag} {v : Value} : PySem.W.kitOne K v v = some true := by unfold PySem.W.kitOne; rw [if_pos (beq_self_eq_true _)]
theorem kit_true {K : PySem.W.Frag} {C M : Addr} (h1 : PySem.W.isClsIn K M = true) (h2 : PySem.W.typeIn K (.ref M) = some (.type "type")) (h3 : PySem.W.subIn K (.ref C) (.ref M) = some true) : PySem.W.kitOne K (.ref C) (.ref M) = some true := by
  unfold PySem.W.kitOne
  split
  · rfl
  · show (if ((PySem.W.clsIn K M).isSome && PySem.W.typeIn K (.ref M) == some (.type "type")) = true then PySem.W.subIn K (.ref C) (.ref M) else none) = some true
    have h1 : (PySem.W.clsIn K M).isSome = true := h1
    rw [h1, h2, if_pos (by decide)]
    exact h3
end
section
variable {X : Cx} {B : Bs} {C HE fI MC M2 : Addr} {fd x : Str} {pos p cpos : Pos} {gb : EnvD -> Option D}
variable {xM y n2 xI fx : Str} {ie iy i : Nat} {pM hpos pI pN pC pA pE' pY pK pB pF apos epos : Pos} {body : List Stmt} {nm : Str}
end
section
variable {P : Program} {w : World} {K : PySem.W.Frag} {mg : Str -> Option Value} {base : Heap} {N : List Str} {qual : Str} {scope : Scope} {f : Addr} {cd : Value} {A : Around} {outer : List Env} {s0 : Shared} {H0 : Hp} {E : XK}
variable {X : Cx} {B : Bs} {C : Addr} {fd x : Str} {pos p cpos lpos : Pos} {e elt tg : Expr} {es ifs : List Expr} {rest : List Stmt} {k n i : Nat} {gxs : EnvD -> Option (List En)} {m : List En -> Option D} {own : List Str} {cap : List (Str × Nat)} {scp : Scope}
end
end Dv
namespace Dv
open PySem PySem.Spec L2 L3 L4
open PyProof.Rows hiding St
section
variable {X : Cx} {B : Bs} {e o : Expr} {apos cpos : Pos} {go : EnvD -> Option D} {gs : EnvD -> Option (List D)}
end
end Dv
namespace Dv
open PySem PySem.Spec L2 L3 L4 L6
open PyProof.Rows hiding St
def noStar : Expr -> Bool
  | .Starred _ _ => false
  | _ => true
theorem star_of {e : Expr} {es : List Expr} {env : Env} (h : noStar e = true) : starEach (e :: es) env = (false, eval e env) :: starEach es env := by
  cases e <;> first | rfl | (cases h)
def PassS (X : Cx) (E : St -> XK) : Prop := ∀ (pins : List (Addr × Obj)) (σ : St) (H : Hp) (s : Shared) (e : Value) (s' : Shared), Inv X pins σ H s -> CX1 X.prog X.w X.stack H s (E σ) e s' -> X.xe e s'
abbrev Xv := Str × Option D
def Pd (K : KW) (F H : Hp) (fd : Str) (dd : Option Addr) : Option D -> Prop
  | none => dd = none
  | some d => ∃ dx v, dd = some dx /\ H dx = some (.xd [(fd, v)]) /\ Rp K F d v
def ySp (K : KW) (ca : Str -> Addr) (fd : Str) (n : Nat) (m : List En -> Option Xv) : Sp := fun vs H _ E =>
  ∃ F xs q, Same F H /\ xs.length = n /\ Paired (fun x v => ArgE K F H x v) xs vs /\ m xs = some q /\ ∀ dd F' H', Ext F H F' H' -> Pd K F' H' fd dd q.2 -> E (.ref (ca q.1)) dd H'
structure Ry (P : Program) (w : World) (K : PySem.W.Frag) (mg : Str -> Option Value) (base : Heap) (ca : Str -> Addr) (fd : Str) (x : Str) (k n : Nat) (m : List En -> Option Xv) : Prop where
  ex : ∃ f f0 ps, FnOk P w K mg base (CX1 P w) k f f0 ps (ySp ⟨K, w⟩ ca fd n m) /\ mg x = some (.ref f) /\ PySem.W.keepIn K (.ref f) = true /\ Binds K f0 ps []
def lV (K : KW) (B : Bs) (ca : Str -> Addr) (fd : Str) (E : St -> XK) (g : EnvD -> Option Xv) : St -> Hp -> Prop := fun σ H =>
  ∃ F ρ q, Rep K B F σ H ρ /\ g ρ = some q /\ ∀ dd F' H', Rep K B F' σ H' ρ -> Same F F' -> Pd K F' H' fd dd q.2 -> E σ (.ref (ca q.1)) dd H'
def DV (X : Cx) (B : Bs) (ca : Str -> Addr) (fd : Str) (E : St -> XK) (e : Expr) (g : EnvD -> Option Xv) : Prop := PE X e fun σ H _ => lV X.kw B ca fd E g σ H
def DVa (X : Cx) (B : Bs) (ca : Str -> Addr) (fd : Str) (E : St -> XK) (es : List Expr) (g : EnvD -> Option Xv) : Prop := PA X es fun σ H _ => lV X.kw B ca fd E g σ H
def lVs (K : KW) (B : Bs) (ca : Str -> Addr) (fd : Str) (E : St -> XK) (g : EnvD -> Option (EnvD × Xv)) : St -> Hp -> Prop := fun σ H =>
  ∃ F ρ q, Rep K B F σ H ρ /\ g ρ = some q /\ ∀ dd σ' F' H', Rep K B F' σ' H' q.1 -> Same F F' -> Pd K F' H' fd dd q.2.2 -> E σ' (.ref (ca q.2.1)) dd H'
def DVs (X : Cx) (B : Bs) (ca : Str -> Addr) (fd : Str) (E : St -> XK) (sts : List Stmt) (g : EnvD -> Option (EnvD × Xv)) : Prop := PSs X sts fun _ σ H => lVs X.kw B ca fd E g σ H
theorem pa_no {X : Cx} {es : List Expr} : PA X es fun _ _ _ => False := fun _ _ _ _ _ _ _ h => h.elim
section
variable {X : Cx} {B : Bs} {ca : Str -> Addr} {fd x : Str} {E : St -> XK} {pos p cpos : Pos} {a b e c : Expr} {es : List Expr} {st : Stmt} {rest sa sb : List Stmt} {k n : Nat} {g ga gb : EnvD -> Option Xv} {gd : EnvD -> Option D} {gl : EnvD -> Option (List D)} {gs : SD} {gt : EnvD -> Option Bool} {gxs : EnvD -> Option (List En)} {m : List En -> Option Xv} {h1 h2 : EnvD -> Option (EnvD × Xv)}
def yCall (m : List En -> Option Xv) (gxs : EnvD -> Option (List En)) : EnvD -> Option Xv := fun ρ => (gxs ρ).bind m
theorem dv_call (hp : PassS X E) (h : Ry X.prog X.w X.kw X.mg X.base ca fd x k n m) (hn : ∀ xs o, m xs = some o -> xs.length = n) (hr : Room k X.A) (hg : Gl X x) (ha : DNs X.nox B (e :: es) gxs)
    (hdb : (x == ("__debug__" : Str)) = false := by decide +kernel) (he : starEach (e :: es) X.env = (false, eval e X.env) :: starEach es X.env := by rfl) (hpl : (backTo pos (starEach es X.env)).any (·.1) = false := by rfl) :
    DV X B ca fd E (.Call (.Name x p) (e :: es) [] pos) (yCall m gxs) := by
  obtain ⟨f, f0, ps, F, hm, hk, hb⟩ := h.ex
  intro pins s σ H Q I h
  obtain ⟨F0, ρ, q0, r, hgq, kk⟩ := h
  unfold yCall at hgq
  cases q1 : gxs ρ with
  | none => rw [q1] at hgq; cases hgq
  | some xs =>
    rw [q1] at hgq
    have hgq : m xs = some q0 := hgq
    refine wpAny_Call_Name_kw (ld_glob I hg hm ?_ hdb)
    refine PySem.W.callWith_K (h₀ := X.base) I.ok.mod.kin hk (wpAny_mono (ha pos pins s σ H (fun vs H1 => ySp X.kw ca fd n m vs H1 (fun _ _ => False) (E σ)) (I.wish _) ⟨F0, ρ, xs, r, q1, fun vs F1 H1 e1 p1 => ⟨F1, xs, q0, e1.fh, hn xs q0 hgq, p1, hgq, fun dd F' H' e2 pd => kk dd F' H' (r.ext (e1.trans e2)) (e1.trans e2).ff pd⟩⟩) (fun us s1 ⟨vs, H1, I1, rv, q⟩ => ⟨I1.kIn, ?_⟩) fun _ _ z => False.elim z) he hpl
    have I1 := I1.unwish
    have hl : (us ++ ([] : List Value)).length = ps.length := by rw [List.append_nil, <- rv.length]; exact F.len _ _ _ _ q
    refine wpAny_call (codeAny_mono (F.run X.A X.stack s1 H1 ⟨us, []⟩ us vs _ (E σ) hr I1.env0 (by have := hb s1 us I1.kIn hl; rw [List.append_nil] at this; exact this) rv q) fun r s' hq => ?_)
    cases r with
    | error e => exact hp pins σ H1 s1 e s' I1 hq
    | ok fl =>
      cases fl with
      | ret u => obtain ⟨_, _, _, _, _, _, _, z⟩ := hq; exact z.elim
      | next => exact False.elim hq
      | brk => exact False.elim hq
      | cont => exact False.elim hq
theorem lV.ext {K : KW} {σ : St} {H H1 F F1 : Hp} {ρ : EnvD} {q : Xv} (r : Rep K B F σ H ρ) (e1 : Ext F H F1 H1) (hg : g ρ = some q) (k : ∀ dd F' H', Rep K B F' σ H' ρ -> Same F F' -> Pd K F' H' fd dd q.2 -> E σ (.ref (ca q.1)) dd H') : lV K B ca fd E g σ H1 :=
  ⟨F1, ρ, q, r.ext e1, hg, fun dd F' H' r' s' => k dd F' H' r' (e1.ff.trans s')⟩
def yAft {α : Type} (ga : EnvD -> Option α) (g : EnvD -> Option Xv) : EnvD -> Option Xv := fun ρ => (ga ρ).bind fun _ => g ρ
theorem yAft_some {α : Type} {ga : EnvD -> Option α} {ρ : EnvD} {q : Xv} (h : yAft ga g ρ = some q) : ∃ y, ga ρ = some y /\ g ρ = some q := by
  unfold yAft at h
  cases q1 : ga ρ with
  | none => rw [q1] at h; cases h
  | some y => rw [q1] at h; exact ⟨y, rfl, h⟩
theorem dva_here (h : DV X B ca fd E e g) (hs : starEach (e :: es) X.env = (false, eval e X.env) :: starEach es X.env := by rfl) : DVa X B ca fd E (e :: es) g := pa_imp (pa_cons h pa_no hs) fun _ _ _ q => q
theorem dva_next (ha : DE X.nox B e gd) (h : DVa X B ca fd E es g) (hs : starEach (e :: es) X.env = (false, eval e X.env) :: starEach es X.env := by rfl) : DVa X B ca fd E (e :: es) (yAft gd g) :=
  pa_imp (pa_cons (PE.nox ha) h hs) fun σ H Q ⟨F, ρ, q, r, hg, k⟩ => by
    obtain ⟨y, q1, q2⟩ := yAft_some hg
    exact ⟨F, ρ, y, r, q1, fun v F1 H1 e1 p1 => lV.ext r e1 q2 k⟩
theorem dv_tuple {x1} (h : DVa X B ca fd E es g) : DV X B ca fd E (.Tuple es x1 pos) g := pe_imp (pe_tup h) fun _ _ _ q => q
def yAlt {α : Type} (g1 g2 : EnvD -> Option α) : EnvD -> Option α := fun ρ => match g1 ρ with
  | some q => some q
  | none => g2 ρ
theorem dvs_alt (d1 : DVs X B ca fd E rest h1) (d2 : DVs X B ca fd E rest h2) : DVs X B ca fd E rest (yAlt h1 h2) := fun pins s σ H D I ⟨F, ρ, q, r, hg, k⟩ => by
  unfold yAlt at hg
  split at hg
  · rename_i q' hq; cases hg; exact d1 pins s σ H D I ⟨F, ρ, q, r, hq, k⟩
  · exact d2 pins s σ H D I ⟨F, ρ, q, r, hg, k⟩
def yE (g : EnvD -> Option Xv) : EnvD -> Option (EnvD × Xv) := fun ρ => (g ρ).map fun q => (ρ, q)
theorem yE_ok {K : KW} {σ : St} {H : Hp} (h : lVs K B ca fd E (yE g) σ H) : lV K B ca fd E g σ H := by
  obtain ⟨F, ρ, q, r, hg, k⟩ := h
  unfold yE at hg
  cases q1 : g ρ with
  | none => rw [q1] at hg; cases hg
  | some q' => rw [q1] at hg; cases hg; exact ⟨F, ρ, q', r, q1, fun dd F' H' r' s' pd => k dd σ F' H' r' s' pd⟩
theorem dvs_ret (h : DV X B ca fd E e g) : DVs X B ca fd E (.Return (some e) pos :: rest) (yE g) :=
  pss_imp (pss_cons (ps_ret h) (u := fun _ _ _ => False) fun _ _ _ _ _ _ z => z.elim) fun _ _ _ q => yE_ok q
theorem dvs_set {i : Nat} {y : Str} {yp : Pos} (hN : X.N.Nodup) (hi : X.N[i]? = some y) (hx : Loc X.env.scope y) (h : DV X B ca fd E e g) (hs : swapsWith e (some (.Name y yp)) pos.line X.env = pure false := by rfl) (hf : X.fn y = true ∨ X.env.scope.names.lookup y = some .local := by first | exact .inl rfl | exact .inr rfl | assumption) :
    DVs X B ca fd E (.Assign [.Name y yp] e pos :: rest) (yE g) :=
  pss_imp (pss_cons (ps_set (i := i) hN hi hx h hs hf) (u := fun _ _ _ => False) fun _ _ _ _ _ _ z => z.elim) fun _ _ _ q => yE_ok q
def ySeq (gs : SD) (h : EnvD -> Option (EnvD × Xv)) : EnvD -> Option (EnvD × Xv) := fun ρ => match gs ρ with
  | some (.next ρ') => h ρ'
  | _ => none
theorem dvs_seq (d1 : DS X.nox B st gs) (d2 : DVs X B ca fd E rest h2) : DVs X B ca fd E (st :: rest) (ySeq gs h2) :=
  pss_imp (pss_cons (PS.nox d1) d2) fun D σ H ⟨F, ρ, q, r, hg, k⟩ => by
    unfold ySeq at hg
    split at hg
    · rename_i ρ' q1
      exact ⟨F, ρ, _, r, q1, fun σ' F' H' r' s' => ⟨F', ρ', q, r', hg, fun dd σ2 F2 H2 r2 s2 pd => k dd σ2 F2 H2 r2 (s'.trans s2) pd⟩⟩
    · cases hg
def yNo {α : Type} : EnvD -> Option α := fun _ => none
theorem dvs_no : DVs X B ca fd E rest yNo := fun _ _ _ _ _ _ ⟨_, _, _, _, hg, _⟩ => by cases hg
def yIf (gt : EnvD -> Option Bool) (h1 h2 : EnvD -> Option (EnvD × Xv)) : EnvD -> Option (EnvD × Xv) := fun ρ => (gt ρ).bind fun b => if b = true then h1 ρ else h2 ρ
theorem dvs_if (hc : DT X.nox B c gt) (d1 : DVs X B ca fd E sa h1) (d2 : DVs X B ca fd E sb h2) : DVs X B ca fd E (.If c sa sb pos :: rest) (yIf gt h1 h2) :=
  pss_imp (pss_cons (ps_if (PT.nox hc) d1 d2) (u := fun _ _ _ => False) fun _ _ _ _ _ _ z => z.elim) fun D σ H ⟨F, ρ, q, r, hg, k⟩ => by
    unfold yIf at hg
    cases q1 : gt ρ with
    | none => rw [q1] at hg; cases hg
    | some b =>
      rw [q1] at hg
      have hg : (if b = true then h1 ρ else h2 ρ) = some q := hg
      refine ⟨F, ρ, b, r, q1, fun F1 H1 e1 => ?_⟩
      cases b with
      | true => rw [if_pos rfl] at hg; exact iteT ⟨F1, ρ, q, r.ext e1, hg, fun dd σ2 F2 H2 r2 s2 pd => k dd σ2 F2 H2 r2 (e1.ff.trans s2) pd⟩
      | false => rw [if_neg (by decide)] at hg; exact iteF ⟨F1, ρ, q, r.ext e1, hg, fun dd σ2 F2 H2 r2 s2 pd => k dd σ2 F2 H2 r2 (e1.ff.trans s2) pd⟩
end
end Dv
namespace L6
open PySem PySem.Spec L2 L3 L4
open PyProof.Rows hiding St
def Trf (h : Heap) (e : Addr) (c : Value) (dd : Option Addr) (a0 : Value) (T : Option Addr) : Prop :=
  ∃ oe vs, h.get? e = some oe /\ oe.cls = c /\ oe.dict = dd /\ oe.data = .fields vs /\ vs[0]? = some a0 /\ (T = none -> vs[1]? = some .none) /\
    ∀ t, T = some t -> vs[1]? = some (.ref t) /\ t ≠ e /\ ∃ oT ts fl, h.get? t = some oT /\ oT.data = .fields ts /\ ts[3]? = some fl
theorem Trc.free {h : Heap} {e : Addr} {c : Value} {dd : Option Addr} {a0 : Value} {T : Option Addr} (t : Trc h e c dd a0 T) : Trf h e c dd a0 T := by
  obtain ⟨oe, vs, h1, h2, h3, h4, h5, h6, h7⟩ := t
  exact ⟨oe, vs, h1, h2, h3, h4, h5, h6, fun t q => let ⟨a, b, oT, ts, c, d, e⟩ := h7 t q; ⟨a, b, oT, ts, _, c, d, e⟩⟩
section
variable {M : Model} {A : Around} {E : Value -> Shared -> Prop} {s : Shared}
theorem note_newF {base : Heap} {env : Env} {outer : List Env} {L e : Addr} {oe : Obj} {vs : Array Value} {head a0 : Value} {hadNext : Bool} {Q : Unit -> Shared -> Prop}
    (hfr : A.frames = some (env :: outer)) (hl : s.heap.FunFrames base (env :: outer)) (hf : env.frame = some L)
    (he : s.heap.get? e = some oe) (hd : oe.data = .fields vs) (hsz : 1 < vs.size) (h0 : vs[0]? = some a0)
    (h : ∀ h' T, Trf h' e oe.cls oe.dict a0 (some T) -> s.heap.objs.size <= T -> Kpt (frs (env :: outer)) e none s.heap h' -> Q () { s with heap := h' }) :
    wpAny M A (do let a <- frameOf env; let pl <- entryPlaceOf L hadNext; let b <- EntryCells.newEntry head a .none (rawInt L) .none pl; setField (.ref e) 1 b) Q E s := by
  have hene : e ∉ (env :: outer).filterMap (·.frame) := fun hm => by
    obtain ⟨_, o, ho, hnf⟩ := hl.mem hm
    rw [he] at ho; cases ho; exact hnf vs hd
  refine wpAny_bind (wpAny_frameOf_fun hfr hl hf fun h1 hs1 => ?_)
  refine wpAny_bind (wpAny_entryPlaceOf fun pl hpl => ?_)
  unfold EntryCells.newEntry newFields
  refine wpAny_bind (wpAny_newObj_type ?_ (hpl.sizeOk5 _ _ _ _ _))
  generalize hoT : ({ cls := .type "traceback", dict := none, data := .fields ([head, .ref L, .none, rawInt L, .none] ++ (if pl.isEmpty then List.replicate 6 Value.none else pl)).toArray } : Obj) = oT
  have dT : oT.data = .fields ([head, .ref L, .none, rawInt L, .none] ++ (if pl.isEmpty then List.replicate 6 Value.none else pl)).toArray := by rw [<- hoT]
  have nfT : oT.isFreed = false := by rw [<- hoT]; rfl
  have he1 : h1.get? e = some oe := (hs1.2.1 e hene).trans he
  have he2 := Heap.get?_push_of_some (h := h1) oT he1
  have hTe : h1.objs.size ≠ e := Nat.ne_of_gt (Heap.lt_size he1)
  refine wpAny_setField he2 hd hsz ?_
  have hd3 := Obj.data_mapFields hd (·.setIfInBounds 1 (Value.ref h1.objs.size))
  have he3 := Heap.get?_update_self (Obj.mapFields (·.setIfInBounds 1 (Value.ref h1.objs.size))) he2 (Obj.isFreed_of_fields hd3)
  have hT3 := (Heap.get?_update_other (h1.push oT) (Obj.mapFields (·.setIfInBounds 1 (Value.ref h1.objs.size))) (Ne.symm hTe)).trans (Heap.get?_push_size h1 nfT)
  refine h _ h1.objs.size ⟨_, _, he3, Obj.cls_mapFields _ _, dict_mapFields _ _, hd3, ?_, fun q => (nomatch q), fun t q => ?_⟩ (Nat.le_of_eq hs1.1.symm) ?_
  · rw [Array.getElem?_setIfInBounds_ne (by decide)]; exact h0
  · cases q
    exact ⟨by simp [hsz], hTe, _, _, rawInt L, hT3, dT, by simp⟩
  · intro b o hbe _ hb
    have keep : ∀ u, h1.get? b = some u -> ((h1.push oT).update e (Obj.mapFields (·.setIfInBounds 1 (Value.ref h1.objs.size)))).get? b = some u := fun u hu => by
      rw [Heap.get?_update_other _ _ (Ne.symm hbe)]
      exact Heap.get?_push_of_some _ hu
    refine ⟨fun hS => keep o ((hs1.2.1 b hS).trans hb), ?_⟩
    obtain ⟨sl, q⟩ := hs1.2.2 b o hb
    exact ⟨sl, keep _ q⟩
theorem noteF {base : Heap} {env : Env} {outer : List Env} {L e : Addr} {c a0 : Value} {dd T : Option Addr} {Q : Unit -> Shared -> Prop}
    (hfr : A.frames = some (env :: outer)) (hl : s.heap.FunFrames base (env :: outer)) (hf : env.frame = some L) (ht : Trf s.heap e c dd a0 T)
    (h : ∀ h' T', Trf h' e c dd a0 (some T') -> (s.heap.objs.size <= T' ∨ T = some T') -> Kpt (frs (env :: outer)) e T s.heap h' -> Q () { s with heap := h' }) : wpAny M A (noteFrame (.ref e) env) Q E s := by
  have ht0 := ht
  obtain ⟨oe, vs, he, rfl, rfl, hd, h0, hn, hs⟩ := ht
  unfold noteFrame
  simp only [hf]
  cases T with
  | none =>
    have h1 := hn rfl
    refine wpAny_bind (wpAny_field he hd h1 ?_)
    rw [if_neg (by decide)]
    exact note_newF hfr hl hf he hd (Array.getElem?_eq_some_iff.mp h1).1 h0 fun h' T' a b => h h' T' a (.inl b)
  | some t =>
    obtain ⟨h1, hte, oT, ts, fl, hT, hdT, h3⟩ := hs t rfl
    refine wpAny_bind (wpAny_field he hd h1 ?_)
    rw [if_pos (show (Value.ref t != Value.none) = true from by simp)]
    refine wpAny_bind (wpAny_field hT hdT h3 ?_)
    by_cases hfl : (fl == rawInt L) = true
    · rw [if_pos hfl]
      exact wpAny_pure (h s.heap t ht0 (.inr rfl) fun b o _ _ q => ⟨fun _ => q, o.slots, q⟩)
    rw [if_neg hfl]
    refine wpAny_bind (wpAny_setField hT hdT (Array.getElem?_eq_some_iff.mp h3).1 ?_)
    have other : ∀ b, b ≠ t -> (s.heap.update t (Obj.mapFields (·.setIfInBounds 3 Value.none))).get? b = s.heap.get? b := fun b hb => Heap.get?_update_other _ _ (Ne.symm hb)
    have ne : ∀ b o, s.heap.get? b = some o -> (∀ ws, o.data ≠ .fields ws) -> b ≠ t := fun b o hb hnf q => by
      subst q; rw [hT] at hb; cases hb; exact hnf ts hdT
    refine note_newF hfr (hl.of_keeps fun b o hb hnf => ⟨o, (other b (ne b o hb hnf)).trans hb, rfl⟩) hf ((other e (Ne.symm hte)).trans he) hd (Array.getElem?_eq_some_iff.mp h1).1 h0 fun h' T' k1 k2 k3 => h h' T' k1 (.inl ?_) ?_
    · have : (s.heap.update t (Obj.mapFields (·.setIfInBounds 3 Value.none))).objs.size = s.heap.objs.size := by simp [Heap.update]
      rw [<- this]; exact k2
    · exact fun b o hbe hbt hb => k3 b o hbe (by simp) ((other b fun q => hbt (by rw [q])).trans hb)
theorem flightF {e t : Addr} {c a0 : Value} {dd fo : Option Addr} {Q : Unit -> Shared -> Prop} (ht : Trf s.heap e c dd a0 (some t))
    (h : ∀ h', Trf h' e c dd a0 (some t) -> (fo = none -> Trc h' e c dd a0 (some t)) -> Kpt [] e (some t) s.heap h' -> Q () { s with heap := h' }) : wpAny M A (setFlight (.ref e) fo) Q E s := by
  obtain ⟨oe, vs, he, rfl, rfl, hd, h0, hn, hs⟩ := ht
  obtain ⟨h1, hte, oT, ts, fl, hT, hdT, h3⟩ := hs t rfl
  have sz : 3 < ts.size := (Array.getElem?_eq_some_iff.mp h3).1
  unfold setFlight
  refine wpAny_bind (wpAny_field he hd h1 ?_)
  rw [if_pos (show (Value.ref t != Value.none) = true from by simp)]
  have he' : (s.heap.update t (Obj.mapFields (·.setIfInBounds 3 (fo.elim Value.none fun f => rawInt f)))).get? e = some oe := by rw [Heap.get?_update_other _ _ hte]; exact he
  have hT' := Heap.get?_update_self (Obj.mapFields (·.setIfInBounds 3 (fo.elim Value.none fun f => rawInt f))) hT (Obj.isFreed_of_fields (Obj.data_mapFields hdT _))
  have h3' : (ts.setIfInBounds 3 (fo.elim Value.none fun f => rawInt f))[3]? = some (fo.elim Value.none fun f => rawInt f) := Array.getElem?_setIfInBounds_self_of_lt sz
  refine wpAny_setField hT hdT sz (h _ ⟨oe, vs, he', rfl, rfl, hd, h0, hn, fun t' q => ?_⟩ (fun hfo => ⟨oe, vs, he', rfl, rfl, hd, h0, hn, fun t' q => ?_⟩) fun b o hb hbt q => ?_)
  · cases q
    exact ⟨h1, hte, _, _, _, hT', Obj.data_mapFields hdT _, h3'⟩
  · cases q
    subst hfo
    exact ⟨h1, hte, _, _, hT', Obj.data_mapFields hdT _, h3'⟩
  · have : (s.heap.update t (Obj.mapFields (·.setIfInBounds 3 (fo.elim Value.none fun f => rawInt f)))).get? b = some o := by
      rw [Heap.get?_update_other _ _ (fun z => hbt (by rw [z]))]; exact q
    exact ⟨fun _ => this, o.slots, this⟩
end
def cxT (X : Cx) (pn : List (Addr × Obj)) (W : Value -> Shared -> Prop) : Cx := { X with pn := pn ++ X.pn, xe := W }
section
variable {X : Cx} {pins pn : List (Addr × Obj)} {W : Value -> Shared -> Prop} {σ : St} {H : Hp} {s : Shared}
theorem inv_inT (I : Inv X pn σ H s) : Inv (cxT X pn W) [] σ H s :=
  ⟨⟨I.ok.mod, I.ok.kind, I.ok.glob, I.ok.blt, I.ok.above, I.ok.inj, I.ok.has, I.ok.cab, I.ok.hd, I.ok.frames, I.ok.stk, I.ok.exf, I.ok.bs, I.ok.bsz, I.ok.noex, I.ok.exfs, I.ok.funs, I.ok.frf⟩, I.os, I.bare, I.base, I.loc, I.cell, I.free, I.freeC, fun p hp => by
    have hp' : p ∈ (pn ++ X.pn) ++ [] := hp
    rw [List.append_nil] at hp'
    exact I.pin p ((List.mem_append.mp hp').elim (fun z => List.mem_append_right _ z) fun z => List.mem_append_left _ z), I.hok, I.len⟩
theorem okT (ok : (cxT X pn W).Ok) : X.Ok := ⟨ok.mod, ok.kind, ok.glob, ok.blt, ok.above, ok.inj, ok.has, ok.cab, ok.hd, ok.frames, ok.stk, ok.exf, ok.bs, ok.bsz, ok.noex, ok.exfs, ok.funs, ok.frf⟩
theorem inv_outT (ok : X.Ok) (I : Inv (cxT X pn W) pins σ H s) : Inv X pn σ H s :=
  ⟨ok, I.os, I.bare, I.base, I.loc, I.cell, I.free, I.freeC, fun p hp => I.pin p (by
    show p ∈ (pn ++ X.pn) ++ pins
    exact List.mem_append_left _ ((List.mem_append.mp hp).elim (fun z => List.mem_append_right _ z) fun z => List.mem_append_left _ z)), I.hok, I.len⟩
end
def WX (X : Cx) (pins : List (Addr × Obj)) (E : St -> XK) : Value -> Shared -> Prop := fun ex s' => ∃ σ' ea C dd a0 T H', ex = .ref ea /\ Inv X pins σ' H' s' /\ Trf s'.heap ea C dd a0 T /\ Own X pins H' ea /\ (∀ t, T = some t -> Own X pins H' t) /\ E σ' C dd H'
section
variable {X : Cx} {pins : List (Addr × Obj)} {E : St -> XK}
theorem pass_WX : Dv.PassS (cxT X pins (WX X pins E)) E := by
  intro pins' σ H s e s' I0 hx
  have I : Inv X pins σ H s := inv_outT (okT I0.ok) I0
  obtain ⟨ea, C, dd, a0, T, H', rfl, hos, bare, un, hok, ht, h1, h2, h3, h4, hE⟩ := hx
  exact ⟨σ, ea, C, dd, a0, some T, H', rfl, I.call' hos un hok bare fun b z => absurd z (by simp), ht.free, own_new I h1 h3, fun t q => by cases q; exact own_new I h2 h4, hE⟩
variable (hstk : X.stack = X.env :: X.outer /\ X.env.frame = some X.env.locals)
include hstk
omit hstk in
end
section
variable {X : Cx} {E : St -> XK} {sts : List Stmt} {t : TS}
theorem pss_inW (h : ∀ pn, PSs (cxT X pn (WX X pn E)) sts t) (hx : ∀ pn e s', WX X pn E e s' -> X.xe e s') : PSs X sts t := fun pins s σ H D I q =>
  wpAny_mono (h pins [] s σ H D (inv_inT I) q) (fun f s1 z => by
    cases f with
    | next => obtain ⟨σ', H', I', q⟩ := z; exact ⟨σ', H', inv_outT I.ok I', q⟩
    | brk => obtain ⟨σ', H', I', q⟩ := z; exact ⟨σ', H', inv_outT I.ok I', q⟩
    | cont => obtain ⟨σ', H', I', q⟩ := z; exact ⟨σ', H', inv_outT I.ok I', q⟩
    | ret u => obtain ⟨v, σ', H', I', r, q⟩ := z; exact ⟨v, σ', H', inv_outT I.ok I', r, q⟩) (hx pins)
end
section
variable {P : Program} {w : World} {K : PySem.W.Frag} {mg : Str -> Option Value} {base : Heap} {N : List Str} {qual : Str} {scope : Scope} {f : Addr} {cd : Value} {A : Around} {outer : List Env} {s : Shared} {H : Hp} {E : XK}
theorem exit_fn {X : Cx} (hX : X = cxOf (CX1 P w) P w K mg base N qual scope f cd A outer s H E) (pn : List (Addr × Obj)) (e : Value) (s' : Shared) (h : WX X pn (fun _ => E) e s') : X.xe e s' := by
  obtain ⟨σ', ea, C, dd, a0, T, H', rfl, I, ht, o1, o2, hE⟩ := h
  have hs0 : X.s₀ = s := by subst hX; rfl
  have b1 : s.heap.objs.size <= ea := by have := o1.1; rw [hs0] at this; exact this
  have b2 : ∀ t, T = some t -> s.heap.objs.size <= t /\ H' t = none := fun t q => ⟨by have := (o2 t q).1; rw [hs0] at this; exact this, (o2 t q).2.2.2.2.1⟩
  have h3 : H' ea = none := o1.2.2.2.2.1
  subst hX
  show wpAny _ _ (leaving _ _) _ _ _
  unfold leaving
  have hl := I.stack
  have hfree := I.stkFree
  have hb0 := I.base
  have hok := I.hok
  have sz : s.heap.objs.size <= s'.heap.objs.size := I.sz
  refine wpAny_bind (noteF I.ok.frames hl rfl ht fun h1 T1 t1 l1 k1 => flightF (s := { s' with heap := h1 }) t1 fun h' _ t2 k2 => ?_)
  have t2 := t2 rfl
  have kT : H' T1 = none /\ s.heap.objs.size <= T1 := by
    rcases l1 with l | l
    · exact ⟨hok.fresh l, Nat.le_trans sz l⟩
    · exact ⟨(b2 _ l).2, (b2 _ l).1⟩
  have k3 : Kpt (frs ((envOfC qual scope s.heap.objs.size f cd) :: outer)) ea T s'.heap h' := fun b o n1 n2 q => by
    have n3 : some T1 ≠ some b := fun z => by
      cases z
      rcases l1 with l | l
      · exact absurd (Heap.lt_size q) (Nat.not_lt.mpr l)
      · exact n2 l
    obtain ⟨q1, sl, q2⟩ := k1 b o n1 n2 q
    refine ⟨fun hb => ((k2 b o n1 n3 (q1 hb)).1 (by simp)), ?_⟩
    obtain ⟨sl2, q3⟩ := (k2 b _ n1 n3 q2).2
    exact ⟨sl2, q3⟩
  have fr : ∀ b, b < s.heap.objs.size -> b ∉ frs outer -> b ∉ frs ((envOfC qual scope s.heap.objs.size f cd) :: outer) := fun b hb hn hm => by
    unfold frs at hm
    rw [List.filterMap_cons] at hm
    have q : (envOfC qual scope s.heap.objs.size f cd).frame = some s.heap.objs.size := rfl
    rw [q] at hm
    rcases List.mem_cons.mp hm with z | z
    · omega
    · exact hn z
  have lo : ∀ b o, s.heap.get? b = some o -> b ≠ ea /\ T ≠ some b /\ b < s.heap.objs.size := fun b o e => by
    have l := Heap.lt_size e
    refine ⟨Nat.ne_of_lt (Nat.lt_of_lt_of_le l b1), fun z => ?_, l⟩
    exact absurd (Nat.lt_of_lt_of_le l (b2 b z).1) (Nat.lt_irrefl _)
  refine ⟨ea, C, dd, a0, T1, H', rfl, I.os, I.bare, ⟨fun b o e n hb hx => ?_, fun b o e n hb hx => ?_, fun b o e n hx => hb0.free b o e n hx, fun b o e hx => ?_, hb0.tups, hb0.frzs, hb0.tbls⟩, fun a u e => ?_, t2, b1, kT.2, h3, kT.1, hE⟩
  · obtain ⟨l1, l2, l3⟩ := lo b o e
    exact (k3 b o l1 l2 (hb0.keep b o e n hb hx)).1 (fr b l3 hb)
  · obtain ⟨l1, l2, l3⟩ := lo b o e
    obtain ⟨sl, q⟩ := hb0.slot b o e n hb hx
    obtain ⟨sl', q'⟩ := (k3 b _ l1 l2 q).2
    exact ⟨sl', q'⟩
  · obtain ⟨l1, l2, l3⟩ := lo b o e
    obtain ⟨o', q⟩ := hb0.there b o e hx
    obtain ⟨sl', q'⟩ := (k3 b _ l1 l2 q).2
    exact ⟨_, q'⟩
  · refine (hok a u e).stay (fun b v hb q => ?_) (fun _ z => z) fun _ _ z => z
    have ht : H' b ≠ none := by
      rcases hb with rfl | z
      · rw [e]; simp
      · rw [z]; simp
    exact (k3 b v (fun z => ht (by rw [z]; exact h3)) (fun z => ht (b2 b z).2) q).1 fun z => ht (hfree b z)
end
section
variable {X : Cx} {pn : List (Addr × Obj)} {E : St -> XK} {C HE fI : Addr} {fd x : Str} {pos p cpos : Pos} {a : Expr} {t : TA} {k : Nat} {f0 : FuncData} {ps : List Str}
end
def xWish (K : PySem.W.Frag) (MC : Addr) (ie : Nat) (ts : Addr -> Addr -> Option Addr -> TS) (D : Ends) : St -> XK := fun σ' C' dd H' => ∃ C, C' = .ref C /\ XM K C MC /\
  ∀ ea, H' ea = none -> ts ea C dd { nx := fun σ2 H2 => D.nx (σ2.set ie none) H2, rt := fun _ _ => False } (σ'.set ie (some (.ref ea))) H'
section
variable {X : Cx} {MC : Addr} {ie : Nat} {t1 : TS} {t2 : (St -> XK) -> TS} {ts : Addr -> Addr -> Option Addr -> TS} {body suite : List Stmt} {b0 : Stmt} {xM n : Str} {pM hpos pos : Pos}
theorem ps_tryU (h1 : PSs X.nox body t1) (h2 : ∀ pn (E : St -> XK), PSs (cxT X pn (WX X pn E)) body (t2 E))
    (hg : Gl X xM) (hm : X.mg xM = some (.ref MC)) (hN : X.N.Nodup) (hi : X.N[ie]? = some n) (hl : X.env.scope.names.lookup n = some .local)
    (hstk : X.stack = X.env :: X.outer /\ X.env.frame = some X.env.locals)
    (hs : ∀ ea oe C dd, oe.cls = .ref C -> oe.dict = dd -> (∃ fs, oe.data = .fields fs) -> PSs (cxE X ea [(ea, oe)]) (b0 :: suite) (ts ea C dd)) (hdb : (xM == ("__debug__" : Str)) = false := by decide) :
    PS X (.Try body [.ExceptHandler (some (.Name xM pM)) (some n) (b0 :: suite) hpos] [] [] pos) (fun D σ H => t1 D σ H ∨ t2 (xWish X.K MC ie ts D) { nx := fun _ _ => False, rt := fun _ _ => False } σ H) := by
  intro pins s σ H D I h
  rcases h with h | h
  · refine wpAny_Try_except (wpAny_mono (h1 pins s σ H D (I.wish _) h) (fun f s1 q => ?_) fun _ _ z => False.elim z)
    have q := SP.unwish q
    cases f with
    | next => exact wpAny_execs_nil q
    | ret v => exact q
    | brk => exact q
    | cont => exact q
  refine wpAny_Try_except (wpAny_mono (h2 pins _ [] s σ H _ (inv_inT I) h) (fun f s1 q => ?_) fun ex s' hx => ?_)
  · cases f with
    | next => obtain ⟨_, _, _, z⟩ := q; exact z.elim
    | ret v => obtain ⟨_, _, _, _, _, z⟩ := q; exact z.elim
    | brk => obtain ⟨_, _, _, z⟩ := q; exact z.elim
    | cont => obtain ⟨_, _, _, z⟩ := q; exact z.elim
  obtain ⟨σ', ea, C', dd, a0, T, H', rfl, I2, ht, o1, o2, C, rfl, xm, q⟩ := hx
  have h3 : H' ea = none := o1.2.2.2.2.1
  have hfr : X.A.frames = some (X.env :: X.outer) := by rw [I.ok.frames, hstk.1]
  have hff : s'.heap.FunFrames X.base (X.env :: X.outer) := by have := I2.stack; rw [hstk.1] at this; exact this
  refine noteF hfr hff hstk.2 ht fun h4 T5 t4 l4 k4 => ?_
  rw [<- hstk.1] at k4
  have I4 := inv_kpt I2 k4 o1 o2
  have o5 : Own X pins H' T5 := by
    rcases l4 with l | l
    · exact own_new I2 l (I2.hok.fresh l)
    · exact o2 _ l
  refine flightF (s := { s' with heap := h4 }) t4 fun h5 _ t5 k5 => ?_
  have t5 := t5 rfl
  have I5 := inv_kpt (s := { s' with heap := h4 }) I4 (k5.wide (S' := frs X.stack) fun b z => nomatch z) o1 fun t z => by cases z; exact o5
  have I5' : Inv (cxE X ea []) pins σ' H' { s' with heap := h5 } := inv_in I5 fun p hp => nomatch hp
  obtain ⟨oe5, vs5, he5, hc5, hd5, hf5, _⟩ := id t5
  refine wpAny_handleBy_cons (codeAny_handlers_test (ld_glob (X := cxE X ea []) I5' hg hm ?_ hdb)) (by intro z; cases z)
  refine matches_exc xm I5.kIn he5 hc5 ?_
  refine codeAny_handlers_suite_as ?_
  refine flight_trc (s := { s' with heap := h5 }) t5 fun h6 t6 k6 => ?_
  have I6 := inv_kpt (s := { s' with heap := h5 }) I5 (k6.wide (S' := frs X.stack) fun b z => nomatch z) o1 fun t z => by cases z; exact o5
  refine store_ok2 (X := X) (v := .ref ea) I6 hN hi (.inl hl) rfl (fun s7 I7 sb => ?_) (.inr hl)
  obtain ⟨oe, vs, he, hc, hd, hf, _⟩ := id t6
  have he7 : s7.heap.get? ea = some oe := by
    obtain ⟨a, sb1, sb2⟩ := sb
    refine (sb1.2 ea ?_).trans he
    rintro rfl
    rcases sb2 with z | z
    · exact o1.2.1 z
    · exact o1.2.2.1 n ea z rfl
  have I7' : Inv (cxE X ea [(ea, oe)]) pins (σ'.set ie (some (.ref ea))) H' s7 := inv_in I7 fun p hp => by
    cases hp with
    | head => exact ⟨he7, h3, o1.2.1, o1.2.2.2.2.2, fun v z => by rw [hf] at z; cases z⟩
    | tail _ z => cases z
  refine wpAny_mono (hs ea oe C dd hc hd ⟨vs, hf⟩ pins s7 _ H' _ I7' (q ea h3)) (fun f s8 z => ?_) fun _ _ z => False.elim z
  cases f with
  | next =>
    obtain ⟨σ8, H8, I8, q8⟩ := z
    exact unbind_ok (inv_out I.ok I8) hN hi hl fun s9 I9 => ⟨_, _, I9, q8⟩
  | ret v => obtain ⟨_, _, _, _, _, z⟩ := z; exact z.elim
  | brk => obtain ⟨_, _, _, z⟩ := z; exact z.elim
  | cont => obtain ⟨_, _, _, z⟩ := z; exact z.elim
end
end L6
namespace Dv
open PySem PySem.Spec L2 L3 L4 L6
open PyProof.Rows hiding St
section
variable {P : Program} {w : World} {K : PySem.W.Frag} {mg : Str -> Option Value} {base : Heap} {N : List Str} {qual : Str} {scope : Scope} {f : Addr} {cd : Value} {A : Around} {outer : List Env} {s0 : Shared} {H0 : Hp}
variable {X : Cx} {pn : List (Addr × Obj)} {E : St -> XK} {B : Bs} {ca : Str -> Addr} {C HE fI : Addr} {fd x nm : Str} {pos p cpos : Pos} {a : Expr} {rest : List Stmt} {k : Nat} {gd : EnvD -> Option D} {f0 : FuncData} {ps : List Str} {g : EnvD -> Option (EnvD × Xv)}
def mirY (N : List Str) (n : Nat) (g : EnvD -> Option (EnvD × Xv)) : List En -> Option Xv := fun xs => if xs.length = n then (g (stE N (xs.map some))).map (·.2) else none
theorem mirY_len {n : Nat} : ∀ xs o, mirY N n g xs = some o -> xs.length = n := fun xs o h => by
  unfold mirY at h
  split at h
  · assumption
  · cases h
theorem fn_raiseY {st : Stmt} (F : Fun K x qual st f f0) (S : FnScope N ps (defScope st))
    (hb : ∀ (cdv : Value) (A : Around) (outer : List Env) (s : Shared) (H : Hp) (E : XK) (B : Bs) (pn : List (Addr × Obj)), Room k (A.deeper (envOfC qual (defScope st) s.heap.objs.size f cdv)) ->
      DVs (cxT (cxOf (CX1 P w) P w K mg base N qual (defScope st) f cdv A outer s H E) pn (WX (cxOf (CX1 P w) P w K mg base N qual (defScope st) f cdv A outer s H E) pn fun _ => E)) B ca fd (fun _ => E) (defBody st) g) :
    FnOk P w K mg base (CX1 P w) (k + 1) f f0 ps (ySp ⟨K, w⟩ ca fd ps.length (mirY N ps.length g)) := by
  obtain ⟨oc, od, kV, doc, pm, an, cdv, ct, osl, rfl, lk, hcd⟩ := F.ex
  refine fn_of lk hcd S (fun vs H Q E h => ?_) fun A outer s H vs Q E hr h => ?_
  · obtain ⟨F, xs, o, _, hl, hp, _⟩ := h
    rw [<- paired_len hp]; exact hl
  · obtain ⟨F0, xs, q, fh, hl, hp, hm, k⟩ := h
    unfold mirY at hm
    rw [if_pos hl] at hm
    cases q1 : g (stE N (xs.map some)) with
    | none => rw [q1] at hm; cases hm
    | some q2 =>
      rw [q1] at hm
      cases hm
      exact ⟨fun _ σ H' => lVs ⟨K, w⟩ ⟨F0, H⟩ ca fd (fun _ => E) g σ H', pss_inW (E := fun _ => E) (fun pn => hb cdv A outer s H E ⟨F0, H⟩ pn hr) (exit_fn rfl), F0, _, q2, start_rep (ps := ps) fh hp, q1, fun dd σ' F' H' r' s' pd => k dd F' H' r'.ex pd⟩
end
inductive It where
  | con (x : Str) | pay | isx (b : Bool)
def itD (p : Option D) : It -> Option D
  | .con x => some (.str x)
  | .pay => p
  | .isx b => some (.bl b)
def itsD (p : Option D) : List It -> Option (List D)
  | [] => some []
  | i :: r => (itD p i).bind fun d => (itsD p r).map (d :: ·)
def tIt (ie : Nat) (ea : Addr) (dd : Option Addr) (fd : Str) : It -> TE
  | .con x => fun _ H Q => Q (.str x) H
  | .pay => fun σ H Q => σ[ie]? = some (some (.ref ea)) /\ ∃ dx v, dd = some dx /\ H dx = some (.xd [(fd, v)]) /\ Q v H
  | .isx b => fun σ H Q => σ[ie]? = some (some (.ref ea)) /\ (dd = none ∨ ∃ dx v, dd = some dx /\ H dx = some (.xd [(fd, v)])) /\ Q (.bl b) H
def tIts (ie : Nat) (ea : Addr) (dd : Option Addr) (fd : Str) : List It -> TA
  | [] => tNil
  | i :: r => tCons (tIt ie ea dd fd i) (tIts ie ea dd fd r)
def ItOk (X : Cx) (C : Addr) (ie : Nat) (fd : Str) (e : Expr) (it : It) : Prop := ∀ ea oe dd, oe.cls = .ref C -> oe.dict = dd -> (∃ fs, oe.data = .fields fs) -> PE (cxE X ea [(ea, oe)]) e (tIt ie ea dd fd it)
def ItsOk (X : Cx) (C : Addr) (ie : Nat) (fd : Str) (es : List Expr) (its : List It) : Prop := ∀ ea oe dd, oe.cls = .ref C -> oe.dict = dd -> (∃ fs, oe.data = .fields fs) -> PA (cxE X ea [(ea, oe)]) es (tIts ie ea dd fd its)
section
variable {X : Cx} {B : Bs} {C HE fI M2 MC : Addr} {ca : Str -> Addr} {fd n x nm0 : Str} {ie i : Nat} {pos p p2 p3 pI pC : Pos} {e : Expr} {es : List Expr} {it : It} {its : List It}
theorem its_nil : ItsOk X C ie fd [] [] := fun _ _ _ _ _ _ => pa_nil
theorem its_cons (h : ItOk X C ie fd e it) (hr : ItsOk X C ie fd es its) (hs : starEach (e :: es) X.env = (false, eval e X.env) :: starEach es X.env := by rfl) : ItsOk X C ie fd (e :: es) (it :: its) := fun ea oe dd hc hd hf => pa_cons (h ea oe dd hc hd hf) (hr ea oe dd hc hd hf) hs
theorem itD_ok {K : KW} {F H : Hp} {ea : Addr} {dd : Option Addr} {σ : St} {q : Option D} {d : D} {Q : VK} (h1 : σ[ie]? = some (some (.ref ea))) (pd : Pd K F H fd dd q) (hd : itD q it = some d) (k : ∀ v, Rp K F d v -> Q v H) : tIt ie ea dd fd it σ H Q := by
  cases it with
  | con x => cases hd; exact k _ rfl
  | isx b =>
    cases hd
    refine ⟨h1, ?_, k _ rfl⟩
    cases q with
    | none => exact .inl pd
    | some d => obtain ⟨dx, v, e1, e2, _⟩ := pd; exact .inr ⟨dx, v, e1, e2⟩
  | pay =>
    replace hd : q = some d := hd
    subst hd
    obtain ⟨dx, v, e1, e2, e3⟩ := pd
    exact ⟨h1, dx, v, e1, e2, k v e3⟩
theorem itsD_ok {K : KW} {F H : Hp} {ea : Addr} {dd : Option Addr} {σ : St} {q : Option D} (h1 : σ[ie]? = some (some (.ref ea))) (pd : Pd K F H fd dd q) : ∀ {its : List It} {ds : List D} {Q : List V -> Hp -> Prop}, itsD q its = some ds -> (∀ vs, Rps K F ds vs -> Q vs H) -> tIts ie ea dd fd its σ H Q
  | [], _, _, hd, k => by cases hd; exact k [] rfl
  | it :: r, ds, Q, hd, k => by
    replace hd : ((itD q it).bind fun d => (itsD q r).map (d :: ·)) = some ds := hd
    cases q1 : itD q it with
    | none => rw [q1] at hd; cases hd
    | some d =>
      cases q2 : itsD q r with
      | none => rw [q1, q2] at hd; cases hd
      | some rs =>
        rw [q1, q2] at hd
        cases hd
        exact itD_ok h1 pd q1 fun v hv => itsD_ok h1 pd q2 fun vs hvs => k _ ⟨v, vs, rfl, hv, hvs⟩
theorem itsD_len {q : Option D} : ∀ {its : List It} {ds : List D}, itsD q its = some ds -> ds.length = its.length
  | [], _, hd => by cases hd; rfl
  | it :: r, ds, hd => by
    replace hd : ((itD q it).bind fun d => (itsD q r).map (d :: ·)) = some ds := hd
    cases q1 : itD q it with
    | none => rw [q1] at hd; cases hd
    | some d =>
      cases q2 : itsD q r with
      | none => rw [q1, q2] at hd; cases hd
      | some rs => rw [q1, q2] at hd; cases hd; simp [itsD_len q2]
def unset : Option (Option En) -> Bool
  | some none => true
  | _ => false
@[simp] theorem unset_no : unset (some none) = true := rfl
theorem unset_eq {o : Option (Option En)} (h : unset o = true) : o = some none := by
  unfold unset at h
  split at h
  · rfl
  · cases h
def sTryL (i ie : Nat) (nm0 : Str) (its : List It) (gs : SD) (gx : EnvD -> Option (EnvD × Xv)) : SD := fun ρ => match gs ρ with
  | some fl => some fl
  | none => match gx ρ with
    | some q => if q.2.1 = nm0 /\ ie ≠ i /\ its.length <= TOP /\ unset (q.1[ie]?) = true then (itsD q.2.2 its).map fun ds => .next (q.1.set i (some (.val (.lst ds)))) else none
    | none => none
variable {gs : SD} {gx : EnvD -> Option (EnvD × Xv)} {body : List Stmt} {xM fx : Str} {pM hpos pF epos lpos : Pos}
theorem ds_tryL (h1 : DSs X.nox B body gs) (h2 : ∀ pn (E : St -> XK), DVs (cxT X pn (WX X pn E)) B ca fd E body gx) (hC : ca nm0 = C) (xm : XM X.K C MC) (hit : ItsOk X C ie fd es its)
    (hg : Gl X xM) (hm : X.mg xM = some (.ref MC)) (hN : X.N.Nodup) (hie : X.N[ie]? = some n) (hl : X.env.scope.names.lookup n = some .local) (hstk : X.stack = X.env :: X.outer /\ X.env.frame = some X.env.locals)
    (hi : X.N[i]? = some fx) (hiL : Loc X.env.scope fx) (hif : X.fn fx = true ∨ X.env.scope.names.lookup fx = some .local)
    (hdb : (xM == ("__debug__" : Str)) = false := by decide +kernel)
    (hs : swapsWith (.List es lpos) (some (.Name fx pF)) epos.line X.env = pure false := by rfl) :
    DS X B (.Try body [.ExceptHandler (some (.Name xM pM)) (some n) [.Assign [.Name fx pF] (.List es lpos) epos] hpos] [] [] pos) (sTryL i ie nm0 its gs gx) := by
  refine ps_imp (ps_tryU (t1 := lS X.kw B gs) (t2 := fun E _ σ H => lVs X.kw B ca fd E gx σ H) (ts := fun ea C' dd D σ H => C' = C /\ tAsg (tLst (tIts ie ea dd fd its)) (gName i) D σ H) h1 h2 hg hm hN hie hl hstk (fun ea oe C' dd hc hd hf => ?_) hdb) fun D σ H h => ?_
  · intro pins s σ H D I ⟨hCC, h⟩
    subst hCC
    exact pss_one (ps_set (X := cxE X ea [(ea, oe)]) hN hi hiL (pe_lst (hit ea oe dd hc hd hf)) hs hif) pins s σ H D I h
  · obtain ⟨F, ρ, fl, r, hgg, k⟩ := h
    unfold sTryL at hgg
    cases q1 : gs ρ with
    | some f1 =>
      rw [q1] at hgg
      have hgg : some f1 = some fl := hgg
      cases hgg
      exact .inl ⟨F, ρ, fl, r, q1, k⟩
    | none =>
      rw [q1] at hgg
      cases q2 : gx ρ with
      | none => rw [q2] at hgg; cases hgg
      | some q =>
        rw [q2] at hgg
        replace hgg : (if q.2.1 = nm0 /\ ie ≠ i /\ its.length <= TOP /\ unset (q.1[ie]?) = true then (itsD q.2.2 its).map fun ds => Fl.next (q.1.set i (some (.val (.lst ds)))) else none) = some fl := hgg
        by_cases hh : q.2.1 = nm0 /\ ie ≠ i /\ its.length <= TOP /\ unset (q.1[ie]?) = true
        · rw [if_pos hh] at hgg
          obtain ⟨e1, e2, etop, e3⟩ := hh
          cases q3 : itsD q.2.2 its with
          | none => rw [q3] at hgg; cases hgg
          | some ds =>
            rw [q3] at hgg
            cases hgg
            refine .inr ⟨F, ρ, q, r, q2, fun dd σ' F' H' r' s' pd => ⟨C, by rw [e1, hC], xm, fun ea hea => ⟨rfl, ?_⟩⟩⟩
            have e4 : q.1[ie]? = some none := unset_eq e3
            have len : ie < σ'.length := by rw [r'.len]; exact (List.getElem?_eq_some_iff.mp e4).1
            refine itsD_ok (List.getElem?_set_self len) pd q3 fun vs hvs => ⟨?_, fun p hp => ?_⟩
            · rw [<- hvs.length, itsD_len q3]; exact top_line etop
            · show D.nx _ _
              have ex : Ext F' H' (upd F' p (.lst vs)) (upd H' p (.lst vs)) := Ext.newF r'.fh hp
              rw [List.set_comm _ _ e2, List.set_set]
              refine k _ (upd F' p (.lst vs)) _ (rep_drop ((r'.ext ex).setv (i := i) (d := .lst ds) (v := .ref p) ⟨p, vs, rfl, upd_same, hvs.mono ex.ff⟩) fun x z => ?_) (s'.trans ex.ff)
              rw [List.getElem?_set_ne (Ne.symm e2), e4] at z
              cases z
        · rw [if_neg hh] at hgg; cases hgg
end
section
variable {X : Cx} {B : Bs} {pos : Pos}
end
section
end
section
variable {X : Cx} {pins : List (Addr × Obj)} {σ : St} {H : Hp} {s : Shared}
end
section
variable {X : Cx} {B : Bs} {ca : Str -> Addr} {fd : Str} {E : St -> XK} {pos : Pos} {tg iter : Expr} {body rest : List Stmt} {t : Tgt} {gi : EnvD -> Option (List D)} {gbd : SD} {gxb : EnvD -> Option (EnvD × Xv)}
end
end Dv
namespace L6
open PySem PySem.Spec L2 L3 L4
open PyProof.Rows hiding St
structure XC0 (K : PySem.W.Frag) (C : Addr) : Prop where
  cls : ∃ dd cd k0 k1 k2 k3 k5 bm, K.lookup C = some ⟨.type "type", dd, .cls cd, #[k0, k1, k2, k3, some (.builtin "ValueError.__new__"), k5]⟩ /\ cd.mro = .ref C :: bm /\ cd.hasDel = false /\
    PySem.W.tailIn K vB bm = true /\ PySem.W.nsOkIn K cd.ns = true /\ PySem.W.nsIn K cd.ns "__init__" = some none
  kp : PySem.W.keepIn K (.ref C) = true
section
variable {P : Program} {w : World} {A : Around} {E : Value -> Shared -> Prop} {H : Heap} {g : Array GenState} {dr : Drawn} {t : Nat} {os : OsState} {C N : Addr} {vs : List Value} {mN : Str -> Option Value}
variable {nm q : Str} {bs bm bb : List Value} {hd : Bool} {sn : List Str} {sb : List Value} {ab : Bool} {col : Option Bool} {dl : Option Addr} {k0 k1 k2 k3 k5 : Option Value} {b0 nid iid : String}
theorem type_call_bare (F : ExcBaseFacts b0 nid iid bb) (T : OwnTail H bb bm) {Q : Fin -> Shared -> Prop} (c : H.get? C = some (excClassObj nm q C N bs bm hd sn sb ab col dl k0 k1 k2 k3 k5 nid)) (n : H.Ns N mN) (i : mN "__init__" = none)
    (k : ∀ h' e t', H.objs.size <= e -> h'.get? e = some { cls := .ref C, data := .fields #[.ref t', .none, .none, .none, .bool false, .none] } -> (∀ b o, H.get? b = some o -> h'.get? b = some o) -> Q (.done (.ret (.ref e))) ⟨h', g, dr, t, os⟩) (few : vs.length <= sizeLine) :
    wpAny (model P w) A (Builtin.«type.__call__» ⟨.ref C :: vs, []⟩) Q E ⟨H, g, dr, t, os⟩ := by
  have me : (Value.ref C :: bm).contains (.ref C) = true := List.contains_iff_mem.mpr (.head _)
  have c' := made_old (C := C) (vs := vs) c
  have T' := T.keeps (h' := made H C vs) fun _ _ z => made_old z
  repeat
    first
      | with_reducible refine wpAny_loadPart_at c ?_
      | with_reducible refine wpAny_madeBy_exc c ?_
      | wp_step
  apply codeAny_call_builtin_code (Code.quiet_builtin _ F.quiet)
  apply wpAny_check_new_subT F T c
  refine codeAny_exc_new_subT F T c ?_ few
  show wpAny (model P w) A _ _ _ ⟨made H C vs, g, dr, t, os⟩
  unfold isInstance
  repeat
    first
      | with_reducible refine wpAny_loadPart_at made_new ?_
      | (with_reducible refine wpAny_isSubtype_exc c' ?_; rw [me])
      | wp_step
  show wpAny (model P w) A (typeLookup (.ref C) "__init__") _ _ _
  apply wpAny_typeLookup_tail c' (made_ns n) T' F.mroIs F.init.lookup
  rw [i]
  refine wpAny_holding (wpAny_bind (wpAny_of_eq (F.init.bind _) (wpAny_bind ?_)))
  refine base_init F T' c' made_new few fun h' e1 e2 => ?_
  wp_walk
  exact k h' _ _ (Nat.le_succ _) e1 fun b o z => e2 b o (Nat.ne_of_lt (Nat.lt_succ_of_lt (Heap.lt_size z))) (made_old z)
theorem call_bare (F : ExcBaseFacts b0 nid iid bb) (T : OwnTail H bb bm) {Q : Value -> Shared -> Prop} (c : H.get? C = some (excClassObj nm q C N bs bm hd sn sb ab col dl k0 k1 k2 k3 k5 nid)) (n : H.Ns N mN) (i : mN "__init__" = none)
    (k : ∀ h' e t', H.objs.size <= e -> h'.get? e = some { cls := .ref C, data := .fields #[.ref t', .none, .none, .none, .bool false, .none] } -> (∀ b o, H.get? b = some o -> h'.get? b = some o) -> Q (.ref e) ⟨h', g, dr, t, os⟩) (few : vs.length <= sizeLine) :
    wpAny (model P w) A (call (.ref C) vs) Q E ⟨H, g, dr, t, os⟩ := by
  have ty : (⟨H, g, dr, t, os⟩ : Shared).TypeIs (.ref C) "type" := ⟨_, c, rfl⟩
  have l1 := tc_lookup
  have l2 := tc_bind (.ref C)
  apply wpAny_call
  apply codeAny_of_tree
  show wpAny (model P w) _ (callAny (.ref C) ⟨vs, []⟩) _ _ _
  repeat
    any_goals first
      | assumption
      | with_reducible refine wpAny_loadPart_at c ?_
      | wp_step
  refine ⟨rfl, codeAny_call_builtin_at (Code.quiet_builtin _ (by decide +kernel)) entry_typeCall (wpAny_check_type_call_sub c ?_)⟩
  exact type_call_bare (few := few) F T c n i fun h' e t' l m s => k h' e t' l m s
end
theorem ns_none {K : PySem.W.Frag} {h : Heap} {N : Addr} {mg : Str -> Option Value} {n : Str} (X : K.In h) (G : h.Ns N mg) (e : PySem.W.nsIn K N n = some none) : mg n = none := by
  obtain ⟨o, es, ep, ho, hd, _, hf⟩ := G
  unfold PySem.W.nsIn at e
  split at e
  · rename_i q
    have := X _ _ q
    rw [ho] at this
    cases this
    cases hd
    split at e
    · cases e
    · rename_i he
      rw [<- hf]
      unfold nsFind findBy
      rw [<- Array.find?_toList, he]
      rfl
  · cases e
theorem XC0.at {K : PySem.W.Frag} {C : Addr} {h : Heap} (x : XC0 K C) (X : K.In h) : ∃ nm q N bs bm hdct sn sub ab col dd k0 k1 k2 k3 k5 mN, h.get? C = some (excClassObj nm q C N bs bm hdct sn sub ab col dd k0 k1 k2 k3 k5 "ValueError.__new__") /\ h.Ns N mN /\ mN "__init__" = none /\ OwnTail h vB bm := by
  obtain ⟨dd, cd, k0, k1, k2, k3, k5, bm, e, m, hdel, ht, hok, hi⟩ := x.cls
  obtain ⟨nm, bs, mro, ns, qn, hd, sn, sub, ab, col, del⟩ := cd
  dsimp only at m hdel hok hi
  subst m hdel
  have G : h.Ns ns (h.nsMap ns) := .of_isNs (PySem.W.isNs_of_in X hok)
  refine ⟨nm, qn, ns, bs, bm, hd, sn, sub, ab, col, dd, k0, k1, k2, k3, k5, _, X _ _ e, G, ?_, PySem.W.tail_of_in X ht⟩
  exact ns_none X G hi
section
variable {X : Cx} {pn : List (Addr × Obj)} {E : St -> XK} {C : Addr} {x : Str} {pos p cpos : Pos} {a : Expr} {t : TA}
def sRaise0 (C : Addr) (E : St -> XK) (t : TA) : TS := fun _ σ H => t σ H fun vs H1 => ∃ v, vs = [v] /\ E σ (.ref C) none H1
theorem ps_raise0 (hc : X.calm = true) (xc : XC0 X.K C) (hg : Gl X x) (hm : X.mg x = some (.ref C)) (ha : PA (cxT X pn (WX X pn E)) [a] t) (hdb : (x == ("__debug__" : Str)) = false := by decide)
    (he : starEach [a] X.env = (false, eval a X.env) :: starEach [] X.env := by rfl) (hpl : (backTo cpos (starEach [] X.env)).any (·.1) = false := by rfl) :
    PS (cxT X pn (WX X pn E)) (.Raise (some (.Call (.Name x p) [a] [] cpos)) none pos) (sRaise0 C E t) := by
  intro pins s σ H D I h
  have hh : X.A.handled = none := I.ok.hd hc
  obtain ⟨nm, qq, N', bs, bm, hdct, sn, sub, ab, col, dd, k0, k1, k2, k3, k5, mN, hC, hN, hi, T⟩ := xc.at I.ok.mod.kin
  have hbase : bm.contains (.type "BaseException") = true := T.hasType (by decide)
  rw [arm_exec_Raise]
  refine wpAny_bind (wpAny_standAt ?_)
  show wpAny _ _ (raiseStmt X.env (some (do let v <- eval (.Call (.Name x p) [a] [] cpos) X.env; standAt pos; pure v)) none) _ _ _
  refine raise_made (nm := nm) (q := qq) (C := C) (N := N') (bs := bs) (bm := bm) (hdct := hdct) (sn := sn) (sub := sub) (ab := ab) (col := col) (dd := dd) (k0 := k0) (k1 := k1) (k2 := k2) (k3 := k3) (k5 := k5) (newId := "ValueError.__new__") hbase hh (wpAny_bind ?_)
  refine wpAny_Call_Name_kw (ld_glob (X := cxT X pn (WX X pn E)) I hg hm ?_ hdb)
  refine PySem.W.callWith_K (h₀ := X.base) I.ok.mod.kin xc.kp (thn (ha cpos pins s σ H _ I h) fun us s1 ⟨vs, H1, I1, r1, v, ev, q⟩ => ⟨I1.kIn, ?_⟩) he hpl
  subst ev
  obtain ⟨nm', qq', N2, bs', bm', hdct', sn', sub', ab', col', dd', k0', k1', k2', k3', k5', mN', hC', hN', hi', T'⟩ := xc.at I1.kIn
  have hl1 : us.length <= sizeLine := by rw [<- r1.length, List.length_cons, List.length_nil, sizeLine_eq]; omega
  obtain ⟨hh1, g, d, tk, os⟩ := s1
  refine call_bare PySem.F.excBase_ValueError T' hC' hN' hi' (fun h' e t' l1 l2 l3 => wpAny_bind (wpAny_standAt (wpAny_pure ?_))) hl1
  have I2 : Inv (cxT X pn (WX X pn E)) pins σ (upd H1 e (ExO e C t' none)) ⟨h', g, d, tk, os⟩ := I1.laid (a := e) (o := ExO e C t' none) (h' := h') (t' := tk) (fun b o q => l3 b o q) l1 (exO_ok l2)
  have hne : H1 e = none := I1.hok.fresh l1
  have hee : upd H1 e (ExO e C t' none) e = some (ExO e C t' none) := upd_same
  refine ⟨e, t', none, rfl, I2.bk _ _ hC, l2, ?_⟩
  have I3 := inv_drop I2 hee
  have eq : del (upd H1 e (ExO e C t' none)) e = H1 := by
    funext b
    by_cases h1 : b = e
    · subst h1; rw [del_same, hne]
    · rw [del_ne h1, upd_ne h1]
  rw [eq] at I3
  exact ⟨σ, e, .ref C, none, .ref t', none, _, rfl, inv_outT (okT I3.ok) I3, ⟨_, _, l2, rfl, rfl, rfl, rfl, fun _ => rfl, fun _ z => (nomatch z)⟩, own_new (inv_outT (okT I1.ok) I1) l1 hne, fun _ z => (nomatch z), q⟩
end
end L6
namespace Dv
open PySem PySem.Spec L2 L3 L4 L6
open PyProof.Rows hiding St
section
variable {X : Cx} {pn : List (Addr × Obj)} {E : St -> XK} {B : Bs} {ca : Str -> Addr} {C : Addr} {fd x nm : Str} {pos p cpos : Pos} {a : Expr} {rest : List Stmt} {gd : EnvD -> Option D}
def yRaise0 (nm : Str) (gd : EnvD -> Option D) : EnvD -> Option (EnvD × Xv) := fun ρ => (gd ρ).map fun _ => (ρ, nm, none)
theorem dvs_raise0 (hC : ca nm = C) (hc : X.calm = true) (xc : XC0 X.K C) (hg : Gl X x) (hm : X.mg x = some (.ref C)) (ha : DE (cxT X pn (WX X pn E)).nox B a gd) (hdb : (x == ("__debug__" : Str)) = false := by decide +kernel)
    (he : starEach [a] X.env = (false, eval a X.env) :: starEach [] X.env := by rfl) (hpl : (backTo cpos (starEach [] X.env)).any (·.1) = false := by rfl) :
    DVs (cxT X pn (WX X pn E)) B ca fd E (.Raise (some (.Call (.Name x p) [a] [] cpos)) none pos :: rest) (yRaise0 nm gd) :=
  pss_imp (pss_cons (ps_raise0 hc xc hg hm (PA.nox (pa_cons ha pa_nil he)) hdb he hpl) (u := fun _ _ _ => False) fun _ _ _ _ _ _ z => z.elim) fun D σ H ⟨F, ρ, q, r, hg, k⟩ => by
    unfold yRaise0 at hg
    cases q1 : gd ρ with
    | none => rw [q1] at hg; cases hg
    | some d =>
      rw [q1] at hg
      cases hg
      refine ⟨F, ρ, d, r, q1, fun v F' H' e1 p1 => ⟨v, rfl, ?_⟩⟩
      have := k none σ F' _ (r.ext e1) e1.ff rfl
      rw [hC] at this
      exact this
end
theorem das_consS {X : Cx} {B : Bs} {e : Expr} {es : List Expr} {g : EnvD -> Option D} {gs : EnvD -> Option (List D)} (hs : starEach (e :: es) X.env = (false, eval e X.env) :: starEach es X.env) (ha : DE X B e g) (hr : DAs X B es gs) : DAs X B (e :: es) (gCons' g gs) := das_cons ha hr hs
end Dv
namespace L6
open PySem PySem.Spec L2 L3 L4
open PyProof.Rows hiding St
section
variable {prog : Program} {w : World} {A : Around} {E : Value -> Shared -> Prop}
end
end L6
namespace Dv
open PySem PySem.Spec L2 L3 L4 L6
open PyProof.Rows hiding St
end Dv
namespace L6
open PySem PySem.Spec L2 L3 L4
open PyProof.Rows hiding St
structure XN (K : PySem.W.Frag) (C M : Addr) : Prop where
  sub : PySem.W.subIn K (.ref C) (.ref M) = some false
  nt : PySem.W.instIn K (.ref M) (.type "tuple") = some false
  cls : (PySem.W.clsIn K M).isSome = true
  exc : PySem.W.subIn K (.ref M) (.type "BaseException") = some true
structure Hd where
  MC : Addr
  ie : Option Nat
  ts : Addr -> Addr -> Option Addr -> TS
inductive HsOk (X : Cx) : List ExceptHandler -> List Hd -> Prop
  | nil : HsOk X [] []
  | as {xM n : Str} {MC : Addr} {ie : Nat} {ts : Addr -> Addr -> Option Addr -> TS} {b0 : Stmt} {suite : List Stmt} {rest : List ExceptHandler} {hds : List Hd} {pM hpos : Pos} (hg : Gl X xM) (hm : X.mg xM = some (.ref MC)) (hdb : (xM == ("__debug__" : Str)) = false)
      (hi : X.N[ie]? = some n) (hl : X.env.scope.names.lookup n = some .local) (hs : ∀ ea oe C dd, oe.cls = .ref C -> oe.dict = dd -> (∃ fs, oe.data = .fields fs) -> PSs (cxE X ea [(ea, oe)]) (b0 :: suite) (ts ea C dd)) (hr : HsOk X rest hds) :
      HsOk X (.ExceptHandler (some (.Name xM pM)) (some n) (b0 :: suite) hpos :: rest) (⟨MC, some ie, ts⟩ :: hds)
  | no {xM : Str} {MC : Addr} {ts : Addr -> Addr -> Option Addr -> TS} {b0 : Stmt} {suite : List Stmt} {rest : List ExceptHandler} {hds : List Hd} {pM hpos : Pos} (hg : Gl X xM) (hm : X.mg xM = some (.ref MC)) (hdb : (xM == ("__debug__" : Str)) = false)
      (hs : ∀ ea oe C dd, oe.cls = .ref C -> oe.dict = dd -> (∃ fs, oe.data = .fields fs) -> PSs (cxE X ea [(ea, oe)]) (b0 :: suite) (ts ea C dd)) (hr : HsOk X rest hds) :
      HsOk X (.ExceptHandler (some (.Name xM pM)) none (b0 :: suite) hpos :: rest) (⟨MC, none, ts⟩ :: hds)
section
variable {X : Cx} {pins : List (Addr × Obj)}
end
section
variable {X : Cx} {t1 : TS} {t2 : (St -> XK) -> TS} {body : List Stmt} {h0 : ExceptHandler} {hs : List ExceptHandler} {hds : List Hd} {pos : Pos}
end
theorem compLoop_genX {prog : Program} {w : World} {A : Around} {R : Result -> Shared -> Prop} {s : Shared} {elt target iter : Expr} {ifs : List Expr} {scope : Scope} {pos : Pos} {it acc : Value} {env : Env} (I : Nat -> Shared -> Prop) (W : Value -> Shared -> Prop) (hW : ∀ x s', W x s' -> notedBy (model prog w) A env (fun y s2 => R (.error y) s2) x s')
    (turn : ∀ n s, I n s -> wpAny (model prog w) A (pyNext it) (fun r s₁ => match r with
      | none => R (.ok .next) s₁
      | some v => wpAny (model prog w) A (letOwnedTupleGo target it v) (fun _ s₁' => wpAny (model prog w) A (assign target env v) (fun _ s₂ =>
          wpAny (model prog w) A (forIn ifs true fun c r => if r = true then do let ok <- isTrue c env (eval c env); pure (ForInStep.yield ok) else pure (ForInStep.yield r)) (fun ok s₃ =>
            if ok = true then wpAny (model prog w) A (eval elt env) (fun x s₄ =>
              wpAny (model prog w) A (call (.builtin "list.append") [acc, x]) (fun _ s₅ => ∃ m, m < n /\ I m s₅) (fun _ _ => False) s₄) W s₃
            else ∃ m, m < n /\ I m s₃) (fun _ _ => False) s₂) (fun _ _ => False) s₁') (fun _ _ => False) s₁) (fun _ _ => False) s)
    (n : Nat) (h : I n s) : codeAny (model prog w) A (.compLoop (.ListComp elt [⟨target, iter, ifs, 0⟩] scope pos) 0 it acc env) R s := by
  refine codeAny_loop rfl I (fun n s hI => ?_) n h
  show wpAny _ A ((compTurn (.ListComp elt [⟨target, iter, ifs, 0⟩] scope pos) 0 it acc env).onRaise (fun x => do noteFrame x env; theTreesLotGoes x)) _ _ s
  refine wpAny_noted ?_
  rw [compTurn_list]
  refine wpAny_bind (wpAny_standAt (wpAny_bind (wpAny_mono (turn n s hI) (fun r s₁ h₁ => ?_) fun _ _ h' => h'.elim)))
  cases r with
  | none => exact wpAny_pure h₁
  | some v =>
    refine wpAny_bind (wpAny_mono h₁ (fun _ s₁' h₁' => ?_) fun _ _ h' => h'.elim)
    refine wpAny_bind (wpAny_mono h₁' (fun _ s₂ h₂ => wpAny_bind (wpAny_mono h₂ (fun ok s₃ h₃ => ?_) fun _ _ h' => h'.elim)) fun _ _ h' => h'.elim)
    cases ok with
    | false => exact wpAny_pure ⟨rfl, h₃⟩
    | true =>
      exact wpAny_bind (wpAny_bind (wpAny_mono h₃ (fun x s₄ h₄ => wpAny_bind (wpAny_mono h₄ (fun _ s₅ h₅ => wpAny_pure (wpAny_pure ⟨rfl, h₅⟩)) fun _ _ h' => h'.elim)) fun x s₄ h' => hW x s₄ h'))
theorem Un.chg {fs ex : List Addr} {H0 H : Hp} {h0 h h' : Heap} (u : Un fs ex H0 H h0 h) (k : ∀ b o, h0.get? b = some o -> ∀ v, h.get? b = some v -> h'.get? b = some v) : Un fs ex H0 H h0 h' :=
  ⟨fun b o e n hb hx => k b o e _ (u.keep b o e n hb hx), fun b o e n hb hx => let ⟨sl, q⟩ := u.slot b o e n hb hx; ⟨sl, k b o e _ q⟩, u.free, fun b o e hx => let ⟨v, q⟩ := u.there b o e hx; ⟨v, k b o e _ q⟩, u.tups, u.frzs, u.tbls⟩
theorem Trf.chg {h h' : Heap} {e : Addr} {c a0 : Value} {dd T : Option Addr} (t : Trf h e c dd a0 T) (k1 : ∀ o, h.get? e = some o -> h'.get? e = some o) (k2 : ∀ b, T = some b -> ∀ o, h.get? b = some o -> h'.get? b = some o) : Trf h' e c dd a0 T := by
  obtain ⟨oe, vs, h1, h2, h3, h4, h5, h6, h7⟩ := t
  exact ⟨oe, vs, k1 _ h1, h2, h3, h4, h5, h6, fun b q => let ⟨a, b', oT, ts, fl, c, d, e⟩ := h7 b q; ⟨a, b', oT, ts, fl, k2 b q _ c, d, e⟩⟩
theorem comp_out {X : Cx} {scope : Scope} {C : Addr} {N : List Str} {fp : List Addr} {pins pc : List (Addr × Obj)} {σ : St} {H2 : Hp} {s2 : Shared} {E : St -> XK} {Q : Value -> Shared -> Prop} {D : Addr} {ex : Value} {s' : Shared}
    (hstk : X.stack = X.env :: X.outer /\ X.env.frame = some X.env.locals)
    (hexit : ∀ pins σ H2 s2 ea C dd a0 T H' s', Inv X pins σ H2 s2 -> Inv X pins σ H' s' -> s2.heap.objs.size <= ea -> H' ea = none -> s2.heap.objs.size <= T -> H' T = none -> Trf s'.heap ea C dd a0 (some T) -> E σ C dd H' -> X.xe (.ref ea) s')
    (I2 : Inv X pins σ H2 s2) (f2 : ∀ b ∈ fp, FpOk X pins H2 b) (h : WX (cxc X scope C N s2 H2 fp (X.pn ++ pins)) pc (fun _ => E σ) ex s') :
    notedBy (model X.prog X.w) X.A (compEnvC scope (clGo X.env.cells scope.names []) C X.env) (fun y s2 => compPost (model X.prog X.w) X.A X.xe none Q (.ref D) C (.error y) s2) ex s' := by
  obtain ⟨σ', ea, C', dd, a0, T, H', rfl, I, ht, o1, o2, hE⟩ := h
  unfold notedBy
  have eqn : noteFrame (.ref ea) (compEnvC scope (clGo X.env.cells scope.names []) C X.env) = noteFrame (.ref ea) X.env := rfl
  rw [eqn]
  have hfr : X.A.frames = some (X.env :: X.outer) := by rw [I2.ok.frames, hstk.1]
  have hff : s'.heap.FunFrames X.base (X.env :: X.outer) := by have := I.stack; rw [<- hstk.1]; exact this
  refine noteF hfr hff hstk.2 ht fun h1 T1 t1 l1 k1 => ?_
  rw [<- hstk.1] at k1
  have I1 : Inv (cxc X scope C N s2 H2 fp (X.pn ++ pins)) pc σ' H' { s' with heap := h1 } := inv_kpt I k1 o1 o2
  have oT : Own (cxc X scope C N s2 H2 fp (X.pn ++ pins)) pc H' T1 := by
    rcases l1 with l | l
    · exact own_new I l (I.hok.fresh l)
    · exact o2 _ l
  obtain ⟨m, hn, _⟩ := id I1.loc
  refine ⟨m, hn, fun h2 sb cenv hcl => ?_⟩
  have neC : ea ≠ C := o1.2.1
  have neT : T1 ≠ C := oT.2.1
  have t2 : Trf h2 ea C' dd a0 (some T1) := t1.chg (fun o q => (sb.2 ea neC).trans q) fun b q o z => by cases q; exact (sb.2 T1 neT).trans z
  unfold PySem.passOn
  obtain ⟨oe, vs, he, _, _, hd, _, _, hs⟩ := id t2
  refine wpAny_bind (wpAny_field he hd (hs T1 rfl).1 ?_)
  rw [if_neg (show ¬ ((Value.ref T1 == Value.none) = true) from by simp)]
  refine wpAny_bind (flightF (s := { s' with heap := h2 }) t2 fun h3 t3 _ k3 => wpAny_throw ?_)
  have lo1 : s2.heap.objs.size <= ea := o1.1
  have lo2 : s2.heap.objs.size <= T1 := oT.1
  have loC : s2.heap.objs.size <= C := I.ok.above
  have hee : H' ea = none := o1.2.2.2.2.1
  have hTT : H' T1 = none := oT.2.2.2.2.1
  have chg : ∀ b v, b ≠ C -> b ≠ ea -> b ≠ T1 -> h1.get? b = some v -> h3.get? b = some v := fun b v n1 n2 n3 q => (k3 b v n2 (fun z => n3 (by cases z; rfl)) ((sb.2 b n1).trans q)).1 (by simp)
  have u : Un (frs X.stack) fp H2 H' s2.heap h3 := Un.chg (h := h1) I1.base fun b o e v q => by
    have l := Heap.lt_size e
    exact chg b v (Nat.ne_of_lt (Nat.lt_of_lt_of_le l loC)) (Nat.ne_of_lt (Nat.lt_of_lt_of_le l lo1)) (Nat.ne_of_lt (Nat.lt_of_lt_of_le l lo2)) q
  have hok : HOk X.prog X.w H' h3 := fun a u' e => by
    refine (I1.hok a u' e).stay (fun b v hb q => ?_) (fun _ z => z) fun _ _ z => z
    have tr : H' b ≠ none := by
      rcases hb with rfl | z
      · rw [e]; simp
      · rw [z]; simp
    exact chg b v (fun z => tr (by rw [z]; exact I1.free)) (fun z => tr (by rw [z]; exact hee)) (fun z => tr (by rw [z]; exact hTT)) q
  have I3 : Inv X pins σ H' { s' with heap := h3 } := I2.call' (s' := { s' with heap := h3 }) (ch := fp) I.os u hok I.bare fun b hb => by
    obtain ⟨q1, q2, q3, q4, q5, q6⟩ := f2 b hb
    exact ⟨q4, q2, q5, q6⟩
  exact hexit pins σ H2 s2 ea C' dd a0 T1 H' _ I2 I3 lo1 hee lo2 hTT t3 hE
theorem pe_lcX {X : Cx} {elt tg iter : Expr} {ifs : List Expr} {scope : Scope} {pos : Pos} {own : List Str} {cap : List (Str × Nat)} {wi : TI} {g : TG} {tc : TT} {te : (St -> XK) -> TE} {E : St -> XK} (hc : X.calm = true) (S : CompScope X scope own cap) (hi : PI X tg iter wi)
    (hin : ∀ C s₀ H₀ fp pn, PG (cxc X scope C (own ++ cap.map (·.1)) s₀ H₀ fp pn) tg g /\ PIfs (cxc X scope C (own ++ cap.map (·.1)) s₀ H₀ fp pn) ifs tc)
    (hel : ∀ C s₀ H₀ fp pn pc (E' : St -> XK), PE (cxT (cxc X scope C (own ++ cap.map (·.1)) s₀ H₀ fp pn) pc (WX (cxc X scope C (own ++ cap.map (·.1)) s₀ H₀ fp pn) pc E')) elt (te E'))
    (hstk : X.stack = X.env :: X.outer /\ X.env.frame = some X.env.locals)
    (hexit : ∀ pins σ H2 s2 ea C dd a0 T H' s', Inv X pins σ H2 s2 -> Inv X pins σ H' s' -> s2.heap.objs.size <= ea -> H' ea = none -> s2.heap.objs.size <= T -> H' T = none -> Trf s'.heap ea C dd a0 (some T) -> E σ C dd H' -> X.xe (.ref ea) s')
    (hs : ∀ x, foldedSetIterable iter X.env x = pure x := by intro _; rfl) :
    PE X (.ListComp elt [⟨tg, iter, ifs, 0⟩] scope pos) (fun σ H Q => tComp wi own cap g tc (te fun _ => E σ) σ H Q) := by
  intro pins s σ H Q I h
  rw [eval_ListComp]
  have hfr : ∀ y ∈ scope.names, y.2 = .free -> ∃ c, X.env.cells.lookup y.1 = some c := fun y hy hk => I.ok.has y.1 (S.frees y hy hk)
  refine wpAny_comprehension_free (use := none) rfl hs (closure_of hfr) S.kind S.names (thn (hi pins s σ H _ I h) fun xv s₁ h₁ => thn h₁ fun it s₂ h₂ => ?_)
  obtain ⟨it, fp, tn, J, H2, rfl, I2, T, st2, f2, W, ⟨m0, w0⟩, turn⟩ := h₂
  refine wpAny_newObj_type (wpAny_newFunctionEnv S.nocell (by intro y hy; simp at hy) (fun h₁ hns₁ hsb₁ => ?_) S.kind)
  dsimp only at hns₁ hsb₁ ⊢
  generalize hH3 : s₂.heap.push { cls := .type "list", dict := none, data := .seq ([] : List Value).toArray } = h3 at hns₁ hsb₁ ⊢
  have hC : h3.objs.size = s₂.heap.objs.size + 1 := by rw [<- hH3, Heap.size_push]
  have flt : ∀ b ∈ fp, b < s₂.heap.objs.size := fun b hb => let ⟨o, e, _⟩ := T.obj _ _ st2 b hb; Heap.lt_size e
  have old : ∀ b o, s₂.heap.get? b = some o -> h₁.get? b = some o := fun b o e => hsb₁.extBut b o (by rw [hC]; exact Nat.ne_of_lt (Nat.lt_succ_of_lt (Heap.lt_size e))) (Heap.get?_push_of_some _ (hH3 ▸ Heap.get?_push_of_some _ e))
  have hDC : s₂.heap.objs.size ≠ h3.objs.size := by rw [hC]; exact Nat.ne_of_lt (Nat.lt_succ_self _)
  have hacc : h₁.get? s₂.heap.objs.size = some { cls := .type "list", data := .seq ([] : List Value).toArray } := hsb₁.extBut _ _ hDC (Heap.get?_push_of_some _ (hH3 ▸ Heap.get?_push_size _ rfl))
  generalize hD : s₂.heap.objs.size = D at hacc hDC
  have hCle : s₂.heap.objs.size <= h3.objs.size := by rw [hC]; exact Nat.le_succ _
  generalize hCC : h3.objs.size = C at *
  have ok : (cxc X scope C (own ++ cap.map (·.1)) s₂ H2 fp (X.pn ++ pins)).Ok := comp_ok S I2 hCle f2 flt
  have sub : ∀ x c, (clGo X.env.cells scope.names []).lookup x = some c -> X.env.cells.lookup x = some c := fun x c => clGo_sub _ _ x c hfr (fun x c e => by simp at e)
  obtain ⟨hG, hT⟩ := hin C s₂ H2 fp (X.pn ++ pins)
  have fl : ∀ {α : Type} {t : Sem α} {Q : α -> Shared -> Prop} {E : Value -> Shared -> Prop} {s : Shared}, wpAny (model X.prog X.w) X.A t Q (fun _ _ => False) s -> wpAny (model X.prog X.w) X.A t Q E s := fun h => wpAny_mono h (fun _ _ q => q) fun _ _ f => f.elim
  have dn : D ∉ frs X.stack := fun z => by
    rcases List.mem_cons.mp (I2.stkSub D z) with q | q
    · exact absurd I2.lt (by rw [<- q, hD]; exact Nat.lt_irrefl _)
    · exact I2.nofs (Nat.le_of_eq hD) q
  have pnl : ∀ p ∈ X.pn ++ pins, p.1 < s₂.heap.objs.size := fun p hp => Heap.lt_size (I2.pin p hp).1
  have celt : ∀ x c, (clGo X.env.cells scope.names []).lookup x = some c -> c < s₂.heap.objs.size := fun x c e => let ⟨v, q⟩ := I2.cell x c (sub x c e); q.lt
  have hDle : s₂.heap.objs.size <= D := Nat.le_of_eq hD
  have I0 : Inv (cxc X scope C (own ++ cap.map (·.1)) s₂ H2 fp (X.pn ++ pins)) [(D, { cls := .type "list", data := .seq ([] : List Value).toArray })] (List.replicate own.length none ++ cap.map fun p => (σ[p.2]?).getD none) H2 { s₂ with heap := h₁, toks := s₂.toks + ([] : List (Str × Value)).length } := by
    refine ⟨ok, rfl, I2.bare, Un.kept old, ⟨_, hns₁, fun i x v e1 e2 e3 => ?_⟩, fun x c e => ?_, I2.hok.fresh hCle, fun x c e => I2.freeC x c (sub x c e), fun p hp => ?_, I2.hok.kept old, ?_⟩
    · by_cases hi : i < own.length
      · rw [List.getElem?_append_left (by simpa using hi), List.getElem?_replicate] at e2
        rw [if_pos hi] at e2
        cases e2
      · have e1 : (own ++ cap.map (·.1))[i]? = some x := e1
        rw [List.getElem?_append_right (by omega), List.getElem?_map] at e1
        rw [List.getElem?_append_right (by simpa using hi), List.length_replicate, List.getElem?_map] at e2
        cases q : cap[i - own.length]? with
        | none => rw [q] at e1; cases e1
        | some p =>
          rw [q] at e1 e2
          have e1 : p.1 = x := Option.some.inj e1
          have e2 : (σ[p.2]?).getD none = some v := Option.some.inj e2
          obtain ⟨c1, c2⟩ := S.caps p (List.mem_of_getElem? q)
          have e2' : σ[p.2]? = some (some v) := by
            cases q2 : σ[p.2]? with
            | none => rw [q2] at e2; cases e2
            | some w => rw [q2] at e2; rw [show w = some v from e2]
          have hk := S.frees (p.1, .free) (mem_of_lookup' c1) rfl
          obtain ⟨m, hn, hl⟩ := I2.loc
          obtain ⟨u, ru, lk⟩ := hl p.2 p.1 v c2 e2' (.inr hk)
          refine ⟨u, ru, .inr ?_⟩
          rcases lk with ⟨k1, _⟩ | ⟨_, c, ec, hcell⟩
          · rcases hk with z | z
            · rw [k1] at z; cases z
            · rw [k1] at z; cases z
          · subst e1
            refine ⟨relabel_free (env := X.env) c1, ?_⟩
            obtain ⟨c', ec'⟩ := Option.isSome_iff_exists.mp (clGo_has (cells := X.env.cells) scope.names [] p.1 (mem_of_lookup' c1))
            have z := sub _ _ ec'
            rw [ec] at z; cases z
            obtain ⟨o, ho, hd⟩ := hcell
            exact ⟨c, ec', o, old c o ho, hd⟩
    · obtain ⟨v, o, ho, hd⟩ := I2.cell x c (sub x c e)
      exact ⟨v, o, old c o ho, hd⟩
    · rcases List.mem_append.mp (show p ∈ (X.pn ++ pins) ++ [(D, _)] from hp) with hp | hp
      · obtain ⟨q1, q2, q3, q4, q5⟩ := I2.pin p hp
        refine ⟨old _ _ q1, q2, Nat.ne_of_lt (Nat.lt_of_lt_of_le (Heap.lt_size q1) hCle), fun z => ?_, q5⟩
        rcases List.mem_cons.mp (I2.stkSub p.1 z) with q | q
        · exact q3 q
        · exact q4 q
      · rw [List.mem_singleton.mp hp]
        exact ⟨hacc, I2.hok.fresh hDle, hDC, dn, fun v z => by cases z⟩
    · show (List.replicate own.length none ++ cap.map _).length = (own ++ cap.map _).length
      simp
  have stat : ∀ {H' : Hp} {pl : List (Addr × Obj)}, (∀ p ∈ pl, p.1 = D ∨ p.1 ∈ fp -> p.1 = D) -> (∀ b ∈ fp, H' b = none) -> ∀ b ∈ fp, FpOk (cxc X scope C (own ++ cap.map (·.1)) s₂ H2 fp (X.pn ++ pins)) pl H' b := by
    intro H' pl hpl hn b hb
    refine ⟨hn b hb, Nat.ne_of_lt (Nat.lt_of_lt_of_le (flt b hb) hCle), fun z => ?_, .inl hb, fun x c e => (f2 b hb).2.2.2.2.1 x c (sub x c e), fun p hp => ?_⟩
    · rcases List.mem_cons.mp (I2.stkSub b z) with q | q
      · exact (f2 b hb).2.1 q
      · exact (f2 b hb).2.2.1 q
    · rcases List.mem_append.mp (show p ∈ (X.pn ++ pins) ++ pl from hp) with hp | hp
      · exact (f2 b hb).2.2.2.2.2 p hp
      · intro z
        have := hpl p hp (.inr (z ▸ hb))
        rw [z] at this
        exact absurd (flt b hb) (by rw [this, hD]; exact Nat.lt_irrefl _)
  have loop : ∀ s₃ : Shared, s₃ = { s₂ with heap := h₁, toks := s₂.toks + ([] : List (Str × Value)).length } ->
      codeAny (model X.prog X.w) X.A (.compLoop (.ListComp elt [⟨tg, iter, ifs, 0⟩] scope pos) 0 (.ref it) (.ref D) (compEnvC scope (clGo X.env.cells scope.names []) C X.env)) (compPost (model X.prog X.w) X.A X.xe none (EP X pins σ Q) (.ref D) C) s₃ := by
    rintro s₃ rfl
    refine compLoop_genX (W := fun ex s' => ∃ pc, WX (cxc X scope C (own ++ cap.map (·.1)) s₂ H2 fp (X.pn ++ pins)) pc (fun _ => E σ) ex s') (hW := fun x s' ⟨pc, h⟩ => comp_out hstk hexit I2 f2 h) (fun n s' => ∃ i ys its k σ1 H', Inv (cxc X scope C (own ++ cap.map (·.1)) s₂ H2 fp (X.pn ++ pins)) [(D, { cls := .type "list", data := .seq (List.toArray its) k })] (σ1 ++ cap.map fun p => (σ[p.2]?).getD none) H' s' /\ σ1.length = own.length /\ Vals ys its /\ tn i s'.heap /\ (∀ b ∈ fp, H' b = none) /\ W i n ys H') ?_ m0
      ⟨0, [], [], 0, _, H2, I0, by simp, .nil, T.keep _ _ _ st2 fun b hb o e => old b o e, fun b hb => (f2 b hb).1, w0⟩
    rintro n s' ⟨i, ys, its, k, σ1, H', J1, hσ, rv, st1, fr1, w1⟩
    obtain ⟨hsz, ⟨stop, qn⟩ | ⟨go, N, hN, step⟩⟩ := turn i n ys H' w1
    · refine thn (T.done (cxc X scope C (own ++ cap.map (·.1)) s₂ H2 fp (X.pn ++ pins)) rfl rfl rfl hc i _ s' _ H' (fun _ _ => False) J1 (stat (by intro p hp _; rw [List.mem_singleton.mp hp]) fr1) st1 stop) fun r s4 ⟨hr, I4⟩ => ?_
      subst hr
      obtain ⟨m4, hn4, _⟩ := I4.loc
      refine ⟨m4, hn4, fun h' sb => ?_⟩
      obtain ⟨pD1, pD2, pD3, pD4, pD5⟩ := I4.pin (D, _) (List.mem_append_right _ List.mem_cons_self)
      have u := un_done (o := .lst ys) I4.base hDle hCle sb pD2
      refine ⟨.ref D, upd H' D (.lst ys), I2.call' (s' := { s4 with heap := h' }) (ch := fp) I4.os u ?_ I4.bare fun b hb => ?_, rfl, qn D pD2⟩
      · intro b ob e
        by_cases hb : b = D
        · subst hb
          rw [upd_same] at e; cases e
          exact ⟨hsz, its, k, rv, (sb.2 _ pD3).trans pD1⟩
        · rw [upd_ne hb] at e
          refine (I4.hok b ob e).stay (fun c v hc' q => (sb.2 c ?_).trans q) (fun c q => by rw [upd_ne (ne_of_none q pD2)]; exact q) fun c xs q => by rw [upd_ne (ne_of_none q pD2)]; exact q
          have hCn : H' C = none := I4.free
          rcases hc' with z | z
          · rw [z]; exact ne_of_none e hCn
          · exact ne_of_none z hCn
      · obtain ⟨q1, q2, q3, q4, q5, q6⟩ := f2 b hb
        exact ⟨q4, q2, q5, q6⟩
    · refine thn (T.item (cxc X scope C (own ++ cap.map (·.1)) s₂ H2 fp (X.pn ++ pins)) rfl rfl rfl hc i _ s' _ H' (fun _ _ => False) J1 (stat (by intro p hp _; rw [List.mem_singleton.mp hp]) fr1) st1 go) fun r s4 ⟨u, hr, h4⟩ => ?_
      subst hr
      refine thn h4 fun _ s5 ⟨x, H5, I5, r5, y5, st5, fr5⟩ => ?_
      have I5' := I5.pinned (stat (by intro p hp _; rw [List.mem_singleton.mp hp]) fr5) (T.obj _ _ st5)
      refine thn (hG _ s5 _ H5 x u _ I5' r5 (step x H5 y5 σ1 hσ)) fun _ s6 ⟨σ6, H6, I6, ⟨σ1', l6, e6⟩, q6⟩ => ?_
      subst e6
      refine thn (hT _ s6 _ H6 _ I6 q6) fun ok s7 ⟨H7, I7, q7⟩ => ?_
      have again : ∀ {s8 : Shared} {H8 : Hp} {ys8 : List V} {its8 : List Value} {k8 : Nat}, Inv (cxc X scope C (own ++ cap.map (·.1)) s₂ H2 fp (X.pn ++ pins)) ([(D, { cls := .type "list", data := .seq (List.toArray its8) k8 })] ++ pinsAt fp s5.heap) (σ1' ++ cap.map fun p => (σ[p.2]?).getD none) H8 s8 -> Vals ys8 its8 -> N ys8 H8 ->
          ∃ m, m < n /\ ∃ i ys its k σ1 H', Inv (cxc X scope C (own ++ cap.map (·.1)) s₂ H2 fp (X.pn ++ pins)) [(D, { cls := .type "list", data := .seq (List.toArray its) k })] (σ1 ++ cap.map fun p => (σ[p.2]?).getD none) H' s8 /\ σ1.length = own.length /\ Vals ys its /\ tn i s8.heap /\ (∀ b ∈ fp, H' b = none) /\ W i m ys H' := by
        intro s8 H8 ys8 its8 k8 I8 rv8 n8
        obtain ⟨m', hm, w8⟩ := hN ys8 H8 n8
        refine ⟨m', hm, i + 1, ys8, its8, k8, σ1', H8, I8.unpinned, l6, rv8, T.keep _ _ _ st5 fun b hb o e => (I8.pin (b, o) (List.mem_append_right _ (List.mem_append_right _ (mem_pinsAt hb e)))).1, fun b hb => ?_, w8⟩
        obtain ⟨o, e, d⟩ := T.obj _ _ st5 b hb
        exact (I8.pin (b, o) (List.mem_append_right _ (List.mem_append_right _ (mem_pinsAt hb e)))).2.1
      cases ok with
      | false => exact again I7 rv q7
      | true =>
        refine wpAny_mono (hel C s₂ H2 fp (X.pn ++ pins) _ _ [] s7 _ H7 _ (inv_inT I7) q7) (fun y s8 ⟨v8, H8, I8o, r8, q8⟩ => ?_) fun ex s' hx => ⟨_, hx⟩
        have I8 := inv_outT I7.ok I8o
        obtain ⟨pD1, pD2, pD3, pD4, pD5⟩ := I8.pin (D, _) (List.mem_append_right _ List.mem_cons_self)
        have hsz' : its.toArray.size <= sizeLine := by rw [List.size_toArray, <- rv.length]; exact hsz
        refine wpAny_list_append_plain (hsz := hsz') (items := its.toArray) ⟨k, pD1⟩ fun h9 pl9 sb9 => ?_
        obtain ⟨k9, e9⟩ := pl9
        have ea : its.toArray.push y = (its ++ [y]).toArray := by simp
        rw [ea] at e9
        have I8' : Inv (cxc X scope C (own ++ cap.map (·.1)) s₂ H2 fp (X.pn ++ pins)) (pinsAt fp s5.heap) (σ1' ++ cap.map fun p => (σ[p.2]?).getD none) H8 s8 := I8.pins_of fun p hp => I8.pin p (List.mem_append_right _ (List.mem_append_right _ hp))
        have fD : FpOk (cxc X scope C (own ++ cap.map (·.1)) s₂ H2 fp (X.pn ++ pins)) (pinsAt fp s5.heap) H8 D := by
          refine ⟨pD2, pD3, pD4, .inr hDle, fun x c e z => ?_, fun p hp z => ?_⟩
          · exact absurd (celt x c e) (by rw [z, hD]; exact Nat.lt_irrefl _)
          · rcases List.mem_append.mp (show p ∈ (X.pn ++ pins) ++ _ from hp) with hp | hp
            · exact absurd (pnl p hp) (by rw [z, hD]; exact Nat.lt_irrefl _)
            · exact absurd (flt p.1 (of_pinsAt hp).1) (by rw [z, hD]; exact Nat.lt_irrefl _)
        have I9 : Inv (cxc X scope C (own ++ cap.map (·.1)) s₂ H2 fp (X.pn ++ pins)) (pinsAt fp s5.heap) (σ1' ++ cap.map fun p => (σ[p.2]?).getD none) H8 { s8 with heap := h9 } := turnedN (t' := s8.toks) (ch := [D]) I8' (fun b o hb e => (sb9.2 b fun z => hb (by simp [z])).trans e) fun b hb => by rw [List.mem_singleton.mp hb]; exact fD
        have I10 : Inv (cxc X scope C (own ++ cap.map (·.1)) s₂ H2 fp (X.pn ++ pins)) ([(D, { cls := .type "list", data := .seq (its ++ [y]).toArray k9 })] ++ pinsAt fp s5.heap) (σ1' ++ cap.map fun p => (σ[p.2]?).getD none) H8 { s8 with heap := h9 } := I9.pins_of fun p hp => by
          rcases List.mem_append.mp hp with hp | hp
          · rw [List.mem_singleton.mp hp]
            exact ⟨e9, pD2, pD3, pD4, fun v z => by cases z⟩
          · exact I9.pin p (List.mem_append_right _ hp)
        exact again (s8 := { s8 with heap := h9 }) I10 (rv.append (.cons r8 .nil)) q8
  subst hD
  exact codeAny_compStart_list (loop _ rfl) (T.self _ 0 _ _ _ (T.keep _ _ _ st2 fun b hb o e => old b o e) (loop _ rfl))
theorem exit_Z {X : Cx} {pn : List (Addr × Obj)} {E : St -> XK} (pins : List (Addr × Obj)) (σ : St) (H2 : Hp) (s2 : Shared) (ea : Addr) (C : Value) (dd : Option Addr) (a0 : Value) (T : Addr) (H' : Hp) (s' : Shared) (I2 : Inv (cxT X pn (WX X pn E)) pins σ H2 s2) (I' : Inv (cxT X pn (WX X pn E)) pins σ H' s')
    (h1 : s2.heap.objs.size <= ea) (h2 : H' ea = none) (h3 : s2.heap.objs.size <= T) (h4 : H' T = none) (t : Trf s'.heap ea C dd a0 (some T)) (hE : E σ C dd H') : (cxT X pn (WX X pn E)).xe (.ref ea) s' :=
  ⟨σ, ea, C, dd, a0, some T, H', rfl, inv_outT (okT I'.ok) I', t, own_new (inv_outT (okT I2.ok) I2) h1 h2, fun b q => by cases q; exact own_new (inv_outT (okT I2.ok) I2) h3 h4, hE⟩
end L6
namespace Dv
open PySem PySem.Spec L2 L3 L4 L6
open PyProof.Rows hiding St
def compX {α : Type} (t : Tgt) (tc : EnvD -> Option Bool) (ge : EnvD -> Option α) (gx : EnvD -> Option Xv) (ρ0 : EnvD) : List D -> Option Xv
  | [] => none
  | d :: ds => (asgD t d ρ0).bind fun ρ1 => (tc ρ1).bind fun b => if b = true then (match ge ρ1 with
    | some _ => compX t tc ge gx ρ0 ds
    | none => gx ρ1) else compX t tc ge gx ρ0 ds
def yComp {α : Type} (own : List Str) (cap : List (Str × Nat)) (t : Tgt) (tc : EnvD -> Option Bool) (ge : EnvD -> Option α) (gx : EnvD -> Option Xv) (gi : EnvD -> Option (List D)) : EnvD -> Option Xv := fun ρ =>
  (gi ρ).bind fun ds => if ds.length <= TOP then compX t tc ge gx (List.replicate own.length none ++ capE ρ cap) ds else none
section
variable {X : Cx} {B : Bs} {ca : Str -> Addr} {fd : Str} {E : St -> XK} {pos : Pos} {tg iter elt : Expr} {ifs : List Expr} {scope : Scope} {own : List Str} {cap : List (Str × Nat)} {t : Tgt} {tc : EnvD -> Option Bool} {α : Type} {post : Post α} {ge : EnvD -> Option α} {gx : EnvD -> Option Xv} {gi : EnvD -> Option (List D)}
theorem dv_comp (hc : X.calm = true) (S : CompScope X scope own cap) (hi : DI X B (fun H => H) tg iter gi) (ht : ∀ i ∈ t.slots, i < own.length) (hstk : X.stack = X.env :: X.outer /\ X.env.frame = some X.env.locals)
    (hexit : ∀ pins σ H2 s2 ea C dd a0 T H' s', Inv X pins σ H2 s2 -> Inv X pins σ H' s' -> s2.heap.objs.size <= ea -> H' ea = none -> s2.heap.objs.size <= T -> H' T = none -> Trf s'.heap ea C dd a0 (some T) -> E σ C dd H' -> X.xe (.ref ea) s')
    (hin : ∀ (B' : Bs) C s₀ H₀ fp pn, PG (cxc X scope C (own ++ cap.map (·.1)) s₀ H₀ fp pn) tg (tgT X.kw t) /\ DIfs (cxc X scope C (own ++ cap.map (·.1)) s₀ H₀ fp pn) B' ifs tc)
    (hel : ∀ (B' : Bs) C s₀ H₀ fp pn pc (E' : St -> XK), PE (cxT (cxc X scope C (own ++ cap.map (·.1)) s₀ H₀ fp pn) pc (WX (cxc X scope C (own ++ cap.map (·.1)) s₀ H₀ fp pn) pc E')).nox elt (lG X.kw B' post ge) /\ DV (cxT (cxc X scope C (own ++ cap.map (·.1)) s₀ H₀ fp pn) pc (WX (cxc X scope C (own ++ cap.map (·.1)) s₀ H₀ fp pn) pc E')) B' ca fd E' elt gx)
    (hs : ∀ x, foldedSetIterable iter X.env x = pure x := by intro _; rfl) : DV X B ca fd E (.ListComp elt [⟨tg, iter, ifs, 0⟩] scope pos) (yComp own cap t tc ge gx gi) := by
  refine pe_imp (L6.pe_lcX (E := E) (tc := fun σ H Q => ∃ B', lT X.kw B' tc σ H Q) (te := fun E' σ H Q => (∃ B', lG X.kw B' post ge σ H Q) ∨ ∃ B', lV X.kw B' ca fd E' gx σ H) hc S hi (fun C s₀ H₀ fp pn => ⟨(hin ⟨H₀, H₀⟩ C s₀ H₀ fp pn).1, fun pins s σ H Q I ⟨B', q⟩ => (hin B' C s₀ H₀ fp pn).2 pins s σ H Q I q⟩) (fun C s₀ H₀ fp pn pc E' pins s σ H Q I q => ?_) hstk hexit hs) ?_
  · rcases q with ⟨B', q⟩ | ⟨B', q⟩
    · exact PE.nox (hel B' C s₀ H₀ fp pn pc E').1 pins s σ H Q I q
    · exact (hel B' C s₀ H₀ fp pn pc E').2 pins s σ H Q I q
  intro σ H Q ⟨F, ρ, qx, r, hg, k⟩
  unfold yComp at hg
  cases q : gi ρ with
  | none => rw [q] at hg; cases hg
  | some ds =>
    rw [q] at hg
    have hg : (if ds.length <= TOP then compX t tc ge gx (List.replicate own.length none ++ capE ρ cap) ds else none) = some qx := hg
    by_cases htop : ds.length <= TOP
    · rw [if_pos htop] at hg
      refine ⟨F, ρ, ds, r, q, fun J F1 H1 e1 jok => ?_⟩
      refine ⟨fun i m ys H2 => m = ds.length - i /\ i <= ds.length /\ ∃ F2, Ext F1 H1 F2 H2 /\ ys.length <= i /\ compX t tc ge gx (List.replicate own.length none ++ capE ρ cap) (ds.drop i) = some qx,
        ⟨ds.length, rfl, Nat.zero_le _, F1, .refl e1.fh, Nat.le_refl _, hg⟩, ?_⟩
      rintro i m ys H2 ⟨rfl, hi, F2, e2, hl1, h2⟩
      refine ⟨top_line (by omega), ?_⟩
      obtain ⟨j1, j2⟩ := jok F2 H2 e2.ff e2.fh e2.hh i
      by_cases hlt : i < ds.length
      · obtain ⟨go, yl⟩ := j1 hlt
        refine .inr ⟨go, fun ys' H' => ∃ F3, Ext F1 H1 F3 H' /\ ys'.length <= i + 1 /\ compX t tc ge gx (List.replicate own.length none ++ capE ρ cap) (ds.drop (i + 1)) = some qx, fun ys' H' ⟨F3, e3, l3, h3⟩ => ⟨ds.length - (i + 1), by omega, rfl, hlt, F3, e3, l3, h3⟩, fun x H3 hy σ1 hσ => ?_⟩
        obtain ⟨F3, d, e3, hd, rd⟩ := yl x H3 hy
        have hdd : ds.drop i = d :: ds.drop (i + 1) := by
          rw [List.drop_eq_getElem_cons hlt]
          congr 1
          rw [List.getElem?_eq_getElem hlt] at hd
          exact Option.some.inj hd
        rw [hdd] at h2
        replace h2 : ((asgD t d (List.replicate own.length none ++ capE ρ cap)).bind fun ρ1 => (tc ρ1).bind fun b => if b = true then (match ge ρ1 with
          | some _ => compX t tc ge gx (List.replicate own.length none ++ capE ρ cap) (ds.drop (i + 1))
          | none => gx ρ1) else compX t tc ge gx (List.replicate own.length none ++ capE ρ cap) (ds.drop (i + 1))) = some qx := h2
        cases q1 : asgD t d (List.replicate own.length none ++ capE ρ cap) with
        | none => rw [q1] at h2; cases h2
        | some ρ1 =>
          rw [q1, Option.bind_some] at h2
          have e13 := e2.trans e3
          refine tg_ok (cap_rep (own := own) (cap := cap) r e1 e13 hσ) rd q1 fun σ' r4 so => ⟨?_, ?_⟩
          · obtain ⟨σ1', l1, e4⟩ := so.pre (σ1 := σ1) rfl (fun j hj => by rw [hσ]; exact ht j hj)
            exact ⟨σ1', by rw [l1, hσ], e4⟩
          · cases q2 : tc ρ1 with
            | none => rw [q2] at h2; cases h2
            | some bb =>
              rw [q2, Option.bind_some] at h2
              refine ⟨⟨F1, H1⟩, F3, ρ1, bb, r4, q2, fun F5 H5 e5 => ?_⟩
              cases bb with
              | false => rw [if_neg (by decide)] at h2; exact iteF ⟨F5, e13.trans e5, by omega, h2⟩
              | true =>
                rw [if_pos rfl] at h2
                cases q3 : ge ρ1 with
                | none =>
                  rw [q3] at h2
                  exact iteT (.inr ⟨⟨F1, H1⟩, F5, ρ1, qx, r4.ext e5, h2, fun dd F' H' r' s' pd => k dd F' H' (r.ext (e1.trans r'.ex)) (e1.trans r'.ex).ff pd⟩)
                | some y =>
                  rw [q3] at h2
                  exact iteT (.inl ⟨⟨F1, H1⟩, F5, ρ1, y, r4.ext e5, q3, fun v F6 H6 e6 p6 => ⟨F6, e13.trans (e5.trans e6), by simp; omega, h2⟩⟩)
      · have hi' : i = ds.length := by omega
        have hdd : ds.drop i = [] := by rw [hi', List.drop_length]
        rw [hdd] at h2
        cases h2
    · rw [if_neg htop] at hg; cases hg
end
end Dv
namespace L6
open PySem PySem.Spec L2 L3 L4
open PyProof.Rows hiding St
def ExcAt (e C : Addr) (h : Heap) : Prop := ∃ ox od, PySem.W.InstAt h e ox C od
structure XI (K : PySem.W.Frag) (C : Addr) : Prop where
  sub : PySem.W.subIn K (.ref C) (.type "BaseException") = some true
  cls : (PySem.W.clsIn K C).isSome = true
  ga : PySem.W.findIn K (.ref C) "__getattribute__" = some (some (.builtin "BaseException.__getattribute__"))
  gt : PySem.W.findIn K (.ref C) "__getattr__" = some none
  ca : PySem.W.findIn K (.ref C) "__class__" = some (some (.builtin "object.__class__"))
  cg : PySem.W.specialIn K (.builtin "object.__class__") "__get__" = some (some (.builtin "getset_descriptor.__get__"))
  ct : PySem.W.takesIn K (.builtin "object.__class__") = some true
  mo : PySem.W.mroIn K C (.type "object") = some true
section
variable {prog : Program} {w : World} {A : Around} {E : Value -> Shared -> Prop} {K : PySem.W.Frag} {x C : Addr}
theorem cls_exc_entry {ox : Obj} {od : Option Obj} {tk : Tok} {R : Result -> Shared -> Prop} {s : Shared} (xi : XI K C) (X : K.In s.heap) (I : PySem.W.InstAt s.heap x ox C od) (hq : R (.ok (.ret (.ref C))) s) :
    wpAny (model prog w) A.in1 (Builtin.«object.__getattribute__» ⟨[.ref x, .str "__class__" tk], []⟩)
      (fun fin s' => match fin with | .done f => R (.ok f) s' | .again c' => c'.quiet = true /\ codeAny (model prog w) A c' R s') (fun e s' => R (.error e) s') s := by
  have hf : PySem.W.findObj K C od "__class__" = some (.bind (.builtin "getset_descriptor.__get__") (.builtin "object.__class__")) := by
    obtain ⟨cd, hc⟩ := Option.isSome_iff_exists.mp xi.cls
    unfold PySem.W.findObj
    rw [hc, Option.bind_some, xi.ca, Option.bind_some]
    simp [xi.cg, xi.ct]
  obtain ⟨h, g, d, t, os⟩ := s
  have L0 := I.type (M := model prog w)
  have L1 := PySem.W.looks_find (M := model prog w) X I hf
  unfold Builtin.«object.__getattribute__»
  refine wpAny_bind (wpAny_pure (wpAny_bind (wpAny_pure (wpAny_bind (L0.at (wpAny_bind (L1.at ?_)))))))
  show wpAny _ _ (holding [_] (call _ [_, .ref x, .ref C]) >>= ret) _ _ _
  exact wpAny_bind (wpAny_holding (wpAny_call (PySem.W.class_get (s := ⟨h, g, d, t, os⟩) X I xi.mo (wpAny_pure hq))))
theorem cls_exc_call {ox : Obj} {od : Option Obj} {tk : Tok} {R : Result -> Shared -> Prop} {s : Shared} (xi : XI K C) (X : K.In s.heap) (I : PySem.W.InstAt s.heap x ox C od) (hq : R (.ok (.ret (.ref C))) s) :
    codeAny (model prog w) A (.call (.builtin "BaseException.__getattribute__") ⟨[.ref x, .str "__class__" tk], []⟩) R s := by
  refine codeAny_call_builtin PySem.F.attrBase_ValueError.ga.plain PySem.F.entry_bexc_ga ?_
  refine @PySem.W.check_slot (model prog w) _ _ s "BaseException.__getattribute__" "BaseException" "__getattribute__" (.ref x) [.str "__class__" tk] [] _ (by decide +kernel) (by decide +kernel) (I.type.andThen (PySem.W.looks_subIn X xi.sub)) (PySem.F.args_bexc_ga (.ref x) (.str "__class__" tk)) ?_
  exact cls_exc_entry xi X I hq
theorem cls_exc {ox : Obj} {od : Option Obj} {Q : Option Value -> Shared -> Prop} {s : Shared} (xi : XI K C) (X : K.In s.heap) (I : PySem.W.InstAt s.heap x ox C od) (hq : Q (some (.ref C)) { s with toks := s.toks + 1 }) :
    wpAny (model prog w) A (getAttr? (.ref x) "__class__") Q E s := by
  obtain ⟨h, g, d, t, os⟩ := s
  have L0 := I.type (M := model prog w)
  have L1 := PySem.W.looks_findIn (M := model prog w) X xi.ga
  have L2 := PySem.W.looks_findIn (M := model prog w) X xi.gt
  have f3 := PySem.F.attrBase_ValueError.ga.bind (.ref x)
  have hv2 : handedOut (Value.ref C) = pure (Value.ref C) := rfl
  have hx2 : (Value.builtin "BaseException.__getattribute__" == Value.builtin "object.__getattribute__") = false := by decide +kernel
  have hx1 : (onTheHeap (Value.ref C) && Value.builtin "BaseException.__getattribute__" == Value.builtin "object.__getattribute__") = false := by rw [hx2]; rfl
  unfold getAttr? getAttrBy? getAttrBy
  repeat (any_goals (first | assumption | with_reducible refine L0.at ?_ | with_reducible refine L1.at ?_ | with_reducible refine L2.at ?_ | rw [hv2] | wp_step))
  refine cls_exc_call (s := ⟨h, g, d, t + 1, os⟩) xi X I ?_
  repeat (any_goals (first | assumption | rw [hv2] | wp_step))
theorem kitx_exc (xi : XI K C) : PySem.W.KitX K (.ref x) (.ref C) (ExcAt x C) where
  ty := fun _ _ _ ⟨_, _, I⟩ => I.type
  it := fun _ _ X _ => by
    obtain ⟨cd, hc⟩ := Option.isSome_iff_exists.mp xi.cls
    unfold PySem.W.clsIn at hc
    split at hc
    · rename_i ho
      intro A' Q' E' s' k q
      unfold isType loadHead
      exact wpAny_bind (wpAny_loadPart (k _ _ (X _ _ ho)) (wpAny_pure q))
    · cases hc
  ne := fun h tp dd its n sl X htp => by
    obtain ⟨cd, hc⟩ := Option.isSome_iff_exists.mp xi.cls
    refine Bool.eq_false_iff.mpr fun q => ?_
    cases (Value.ref.inj (beq_iff_eq.mp q) : C = tp)
    unfold PySem.W.clsIn at hc
    split at hc
    · rename_i ho
      cases (X _ _ ho).symm.trans htp
    · cases hc
  ca := fun X ⟨_, _, I⟩ k => cls_exc xi X I k
theorem isb_exc {s : Shared} {Q : Value -> Shared -> Prop} {c : Value} {b : Bool} (xi : XI K C) (X : K.In s.heap) (I : ExcAt x C s.heap) (z : PySem.W.kitOne K (.ref C) c = some b) (h : ∀ tk, Q (.bool b) { s with toks := tk }) :
    wpAny (model prog w) A (call (.builtin "isinstance") [.ref x, c]) Q E s :=
  PySem.W.kia_one (kitx_exc xi) X I z (fun z => nomatch z) h
end
def rIsB (ea : Addr) (dd : Option Addr) (fd : Str) (M2 : Addr) (b : Bool) : List V -> Hp -> VK -> Prop := fun xs H Q => xs = [.ref ea, .ref M2] /\ (dd = none ∨ ∃ dx v, dd = some dx /\ H dx = some (.xd [(fd, v)])) /\ Q (.bl b) H
theorem call_isB {X : Cx} {C ea M2 : Addr} {oe : Obj} {fd : Str} {dd : Option Addr} {b : Bool} (xi : XI X.K C) (hpn : (ea, oe) ∈ X.pn) (hc : oe.cls = .ref C) (hd : oe.dict = dd) (hf : ∃ fs, oe.data = .fields fs) (z : PySem.W.kitOne X.K (.ref C) (.ref M2) = some b) : CallR X (.builtin "isinstance") (rIsB ea dd fd M2 b) := by
  intro pins s σ H xs us Q I r h
  obtain ⟨rfl, hdd, q⟩ := h
  cases r with
  | @cons _ u1 _ _ r1 r2 =>
  cases r2 with
  | @cons _ u2 _ _ r3 r4 =>
  cases r4
  obtain rfl : u1 = Value.ref ea := r1
  obtain rfl : u2 = Value.ref M2 := r3
  obtain ⟨fs, hf⟩ := hf
  have he := (I.pin (ea, oe) (List.mem_append_left _ hpn)).1
  have hn : PySem.W.notCls oe = true := by unfold PySem.W.notCls; rw [hf]
  have IA : ExcAt ea C s.heap := by
    rcases hdd with e0 | ⟨dx, v, e1, e2⟩
    · exact ⟨oe, none, he, hc, hn, by rw [hd, e0]; trivial⟩
    · obtain ⟨mA, hm, _⟩ := I.hok dx _ e2
      obtain ⟨o, _, _, ho, _⟩ := hm.ns
      exact ⟨oe, some o, he, hc, hn, by rw [hd, e1]; exact ho⟩
  exact isb_exc xi I.kIn IA z fun tk => ⟨.bl b, H, I.tok tk, rfl, q⟩
end L6
namespace Dv
open PySem PySem.Spec L2 L3 L4 L6
open PyProof.Rows hiding St
theorem it_isB {X : Cx} {C M2 : Addr} {fd n x : Str} {ie : Nat} {p2 p3 pI pC : Pos} {b : Bool} (xi : XI X.K C) (z : PySem.W.kitOne X.K (.ref C) (.ref M2) = some b) (hgI : Gl X "isinstance") (hmI : X.mg "isinstance" = none) (hg : Gl X x) (hm : X.mg x = some (.ref M2)) (hi : X.N[ie]? = some n) (hl : X.env.scope.names.lookup n = some .local)
    (d3 : (n == ("__debug__" : Str)) = false := by decide +kernel) (d4 : (n == ("__classdict__" : Str)) = false := by decide +kernel) (hdb : (x == ("__debug__" : Str)) = false := by decide +kernel)
    (he : starEach [.Name n p2, .Name x p3] X.env = (false, eval (.Name n p2) X.env) :: starEach [.Name x p3] X.env := by rfl) (he2 : starEach [.Name x p3] X.env = (false, eval (.Name x p3) X.env) :: starEach [] X.env := by rfl) (hpl : (backTo pC (starEach [.Name x p3] X.env)).any (·.1) = false := by rfl) :
    ItOk X C ie fd (.Call (.Name "isinstance" pI) [.Name n p2, .Name x p3] [] pC) (.isx b) := fun ea oe dd hc hd hf =>
  pe_imp (pe_callB (X := cxE X ea [(ea, oe)]) (call_isB (fd := fd) (b := b) xi (List.mem_append_left _ (.head _)) hc hd hf z) hgI hmI (by decide +kernel) (pa_cons (pe_var hi (.inl hl) d3 d4) (pa_cons (pe_glob hg hm (v := .ref M2) rfl hdb) pa_nil he2) he) (by decide) (by decide) he hpl) fun σ H Q ⟨e1, ed, q⟩ => ⟨_, e1, rfl, ed, q⟩
def chV (z : Str) : List V := z.cps.toList.map fun c => V.str ⟨#[c]⟩
theorem call_listS {X : Cx} (hc : X.calm = true) : CallR X (.type "list") (fun xs H Q => ∃ z, xs = [.str z] /\ z.cps.size <= sizeLine /\ ∀ p, H p = none -> Q (.ref p) (upd H p (.lst (chV z)))) := by
  intro pins s σ H vs us Q I r h
  obtain ⟨z, rfl, hz, q⟩ := h
  obtain ⟨u, rfl, ru⟩ := vals1 r
  obtain ⟨t, rfl⟩ := ru
  refine call_list_str (I.ok.hd hc) z t (fun h' tk acc c keep hn items => ?_) hz
  have hl : (chV z).length = z.cps.size := by simp [chV]
  have rv : Vals (chV z) acc.toList := by
    refine vals_of (by have := items.1; simp [chV] at this ⊢; omega) fun j x u h1 h2 => ?_
    obtain ⟨c, t', e1, rfl⟩ := items.2 j u (by rw [<- Array.getElem?_toList]; exact h2)
    have : (chV z)[j]? = some (.str ⟨#[c]⟩) := by simp [chV, e1]
    rw [this] at h1
    cases h1
    exact ⟨t', rfl⟩
  refine ⟨.ref _, upd H _ (.lst (chV z)), I.laid (t' := tk) keep (Nat.le_refl _) ⟨by rw [hl]; exact hz, acc.toList, c, rv, by simpa using hn⟩, rfl, q _ (I.hok.fresh (Nat.le_refl _))⟩
theorem rps_ch {K : KW} {F : Hp} (z : Str) : Rps K F (chD z) (chV z) := by
  refine rps_at (by simp [chD, chV]) fun j d v h1 h2 => ?_
  simp only [chD, chV, List.getElem?_map] at h1 h2
  cases q : z.cps.toList[j]? with
  | none => rw [q] at h1; cases h1
  | some c => rw [q] at h1 h2; cases h1; cases h2; rfl
def fListS : List D -> Option (List D)
  | [.str z] => if z.cps.size <= sizeLine then some (chD z) else none
  | _ => none
theorem ok_listS {K : KW} : CallOk K (fun xs H Q => ∃ z, xs = [.str z] /\ z.cps.size <= sizeLine /\ ∀ p, H p = none -> Q (.ref p) (upd H p (.lst (chV z)))) (pA K) fListS := by
  intro F H vs ds d Q s hp e k
  unfold fListS at e
  split at e
  · rename_i z
    split at e
    · rename_i hz
      cases e
      obtain ⟨v, rfl, r⟩ := pair1 hp
      obtain rfl : v = .str z := r.str
      exact ⟨z, rfl, hz, fun p hp => k _ F _ (.new s hp) ⟨p, _, rfl, hp, upd_same, s.free hp, rps_ch z⟩⟩
    · cases e
  · cases e
theorem da_listS {X : Cx} {B : Bs} {a : Expr} {p pos : Pos} {gs : EnvD -> Option (List D)} (hc : X.calm = true) (hg : Gl X "list") (hm : X.mg "list" = none) (ha : DRs X B [a] gs) (he : starEach [a] X.env = (false, eval a X.env) :: starEach [] X.env := by rfl) (hpl : (backTo pos (starEach [] X.env)).any (·.1) = false := by rfl) :
    DA X B (.Call (.Name "list" p) [a] [] pos) (gB fListS gs) := da_callTy (call_listS hc) ok_listS hg hm (by decide +kernel) ha (by decide) (by decide) he hpl
def Itn (z : Str) : L2.It := ⟨fun i _ => i < z.cps.size, fun i H x H' => ∃ T c, H T = none /\ x = .ref T /\ z.cps[i]? = some c /\ H' = upd H T (.tup [.int i, .str ⟨#[c]⟩]), fun i _ => i = z.cps.size⟩
theorem turn_enumS {P : Program} {w : World} {K : PySem.W.Frag} {elts : List Expr} {k : Nat} {pos : Pos} {z : Str} {t : Tok} {n : String} (e it : Addr) (hne : e ≠ it)
    (W : ∀ A' : Around, A'.handled = none -> Draws P w A' it [it] z.cps.size (SignAt z) (fun i h => h.IsStrIter it n z t i)) :
    Turn P w K (.Tuple elts k pos) (Itn z) [e, it] e (fun i h => (∃ old, IsEnum h e it i old) /\ h.IsStrIter it n z t i) where
  mem := by simp
  obj := fun i h st b hb => by
    obtain ⟨⟨old, he⟩, o, e1, c, d⟩ := st
    rcases List.mem_cons.mp hb with rfl | hb
    · exact ⟨_, he, fun v z => by cases z⟩
    · rw [List.mem_singleton.mp hb]
      exact ⟨o, e1, fun v z => by rw [d] at z; cases z⟩
  keep := fun i h h' st k => ⟨let ⟨old, he⟩ := st.1; ⟨old, k e (by simp) _ he⟩, let ⟨o, e1, r⟩ := st.2; ⟨o, k it (by simp) o e1, r⟩⟩
  item := by
    intro X hP hw hK hc i pins s σ H E I hf st hg
    subst hP hw hK
    obtain ⟨⟨old, he⟩, hit⟩ := st
    have hef : e ∉ [it] := fun hm => hne (List.mem_singleton.mp hm)
    refine wpAny_pyNext_enum_itemD (W X.A.in1 (I.ok.hd hc)) he hit hg hne hef fun x h' tk hP ho hit' hT hsz hk => ⟨_, rfl, ?_⟩
    obtain ⟨c, u, hx, rfl⟩ := hP
    refine wpAny_letOwnedTupleGo_enum ho fun h'' he'' hs'' => ?_
    have nT : H s.heap.objs.size = none := I.hok.fresh (Nat.le_refl _)
    have hTe : s.heap.objs.size ≠ e := Nat.ne_of_gt (Heap.lt_size he)
    have hit'' : h''.IsStrIter it n z t (i + 1) := let ⟨o, e1, r⟩ := hit'; ⟨o, hs''.extBut it o (Ne.symm hne) e1, r⟩
    refine ⟨.ref s.heap.objs.size, upd H s.heap.objs.size (.tup [.int i, .str ⟨#[c]⟩]), stepN (s := s) (t' := tk + 1) (ch := [e, it]) I (fun b o hb q => ?_) hf (Nat.le_refl _) ?_, rfl, ⟨_, c, nT, rfl, hx, rfl⟩, ⟨⟨_, by simpa using he''⟩, hit''⟩, fun b hb => ?_⟩
    · have h1 : b ≠ e := fun z => hb (by simp [z])
      have h2 : b ≠ it := fun z => hb (by simp [z])
      exact hs''.extBut b o h1 (hk b o h1 h2 q)
    · exact ⟨(show 2 <= sizeLine by decide), [.int i tk, .str ⟨#[c]⟩ u], .cons ⟨_, rfl⟩ (.cons ⟨_, rfl⟩ .nil), ⟨_, hs''.extBut _ _ hTe hT, rfl, _, rfl⟩⟩
    · have hb' : b ≠ s.heap.objs.size := by
        rcases List.mem_cons.mp hb with rfl | hb
        · exact Ne.symm hTe
        · rw [List.mem_singleton.mp hb]
          obtain ⟨o, e1, _⟩ := hit
          exact Nat.ne_of_lt (Heap.lt_size e1)
      rw [upd_ne hb']
      exact (hf b hb).1
  done := by
    intro X hP hw hK hc i pins s σ H E I hf st hg
    subst hP hw hK
    obtain ⟨⟨old, he⟩, hit⟩ := st
    obtain rfl : i = z.cps.size := hg
    refine wpAny_pyNext_enum_endD (W X.A.in1 (I.ok.hd hc)) he hit fun h' eb => ⟨rfl, turnedN (t' := s.toks) (ch := [e, it]) I (fun b o hb q => eb b o (fun z => hb (by simp [z])) q) hf⟩
  self := fun _ _ _ _ _ st h => let ⟨_, he⟩ := st.1; wpAny_pyIter_enum he h
section
variable {X : Cx} {elts : List Expr} {tk : Nat} {tpos p pos : Pos} {a : Expr} {B : Bs} {hb : Hp -> Hp} {gi : EnvD -> Option (List D)}
def iEnumS (ta : TA) : TI := fun σ H R => ta σ H fun vs H1 => ∃ z, vs = [.str z] /\ R (Itn z) H1
theorem pi_enumS {ta : TA} (hg : Gl X "enumerate") (hm : X.mg "enumerate" = none) (ha : PA X [a] ta) (hs : starEach [a] X.env = [(false, eval a X.env)] := by rfl) :
    PI X (.Tuple elts tk tpos) (.Call (.Name "enumerate" p) [a] [] pos) (iEnumS ta) := by
  intro pins s σ H R I h
  refine Call_ (ld_blt I hg hm (u := .type "enumerate") (by decide +kernel) (PyProof.Rows.callWith_type1 (thn (ha pos pins s σ H _ I h) fun us s1 ⟨vs, H1, I1, r1, q1⟩ => ?_) hs rfl))
  obtain ⟨z, e, q⟩ := q1
  subst e
  obtain ⟨u, rfl, ru⟩ := vals1 r1
  obtain ⟨t, rfl⟩ := ru
  refine call_enumerate_str fun h' he hit hsz hk => wpAny_pyIter_enum he ?_
  have I2 : Inv X pins σ H1 { s1 with heap := h' } := I1.kept (t' := s1.toks) hk
  have hne : ((s1.heap.objs.size + 1 : Nat) ≠ s1.heap.objs.size) := by omega
  have fr : ∀ b ∈ [s1.heap.objs.size + 1, s1.heap.objs.size], s1.heap.objs.size <= b := fun b hb => by
    rcases List.mem_cons.mp hb with rfl | hb
    · exact Nat.le_succ _
    · rw [List.mem_singleton.mp hb]; exact Nat.le_refl _
  cases hA : z.cps.all (· < 128)
  · have hit' : h'.IsStrIter s1.heap.objs.size "str_iterator" z t 0 := by simpa [strIterType, hA] using hit
    exact ⟨s1.heap.objs.size + 1, [s1.heap.objs.size + 1, s1.heap.objs.size], _, _, H1, rfl, I2, turn_enumS (z := z) (t := t) _ _ hne fun A' hA' => Draws.strWide hA' s1.heap.objs.size z t, ⟨⟨_, he⟩, hit'⟩, fun b hb => I1.fpOk (fr b hb) (I1.hok.fresh (fr b hb)), q⟩
  · have hit' : h'.IsStrIter s1.heap.objs.size "str_ascii_iterator" z t 0 := by simpa [strIterType, hA] using hit
    exact ⟨s1.heap.objs.size + 1, [s1.heap.objs.size + 1, s1.heap.objs.size], _, _, H1, rfl, I2, turn_enumS (z := z) (t := t) _ _ hne fun A' hA' => Draws.strAscii hA' s1.heap.objs.size z t, ⟨⟨_, he⟩, hit'⟩, fun b hb => I1.fpOk (fr b hb) (I1.hok.fresh (fr b hb)), q⟩
def gEnS (gs : EnvD -> Option (List D)) : EnvD -> Option (List D) := fun ρ => (gs ρ).bind fun xs => match xs with
  | [.str z] => some (enumD 0 (chD z))
  | _ => none
theorem di_enumS (hg : Gl X "enumerate") (hm : X.mg "enumerate" = none) (ha : DRs X B [a] gi) (hs : starEach [a] X.env = [(false, eval a X.env)] := by rfl) :
    DI X B hb (.Tuple elts tk tpos) (.Call (.Name "enumerate" p) [a] [] pos) (gEnS gi) :=
  pi_imp (pi_enumS hg hm ha hs) fun σ H R ⟨F, ρ, ds, r, hg, k⟩ => by
    unfold gEnS at hg
    cases q : gi ρ with
    | none => rw [q] at hg; cases hg
    | some xs =>
      rw [q] at hg
      refine ⟨F, ρ, xs, r, q, fun vs F1 H1 e1 p1 => ?_⟩
      match xs, hg, p1 with
      | [.str z], hg, p1 =>
        obtain ⟨v, rfl, rv⟩ := pair1 p1
        replace hg : some (enumD 0 (chD z)) = some ds := hg
        cases hg
        obtain rfl : v = .str z := rv.str
        have hl : (chD z).length = z.cps.size := by simp [chD]
        refine ⟨z, rfl, k _ F1 H1 e1 fun F2 H2 s1 s2 s3 i => ⟨fun hi => ?_, fun hi => ?_⟩⟩
        · rw [enumD_length, hl] at hi
          refine ⟨hi, fun x H3 hy => ?_⟩
          obtain ⟨T, c, nT, rfl, hx, rfl⟩ := hy
          have hd : (chD z)[i]? = some (.str ⟨#[c]⟩) := by simp [chD, hx]
          refine ⟨upd F2 T (.tup [.int i, .str ⟨#[c]⟩]), _, .newF s2 nT, enumD_get 0 _ i _ hd, ⟨T, _, rfl, upd_same, _, _, rfl, ?_, _, _, rfl, rfl, rfl⟩⟩
          show V.int i = V.int ((0 + i : Nat) : Int)
          rw [Nat.zero_add]
        · show i = z.cps.size
          rw [hi, enumD_length, hl]
end
structure Exc0 (K : PySem.W.Frag) (mg : Str -> Option Value) (CT HE : Addr) (xT xH : Str) (oth : List (Str × Bool)) : Prop where
  xc : XC0 K CT
  xi : XI K CT
  xm : XM K CT CT
  xmH : XM K CT HE
  z : PySem.W.kitOne K (.ref CT) (.ref HE) = some true
  zT : PySem.W.kitOne K (.ref CT) (.ref CT) = some true
  mT : mg xT = some (.ref CT)
  mH : mg xH = some (.ref HE)
  oth : ∀ q ∈ oth, ∃ M, mg q.1 = some (.ref M) /\ PySem.W.kitOne K (.ref CT) (.ref M) = some q.2
theorem kit_false {K : PySem.W.Frag} {C M : Addr} (h0 : PySem.W.subIn K (.ref C) (.ref C) = some true) (h1 : PySem.W.isClsIn K M = true) (h2 : PySem.W.typeIn K (.ref M) = some (.type "type")) (h3 : PySem.W.subIn K (.ref C) (.ref M) = some false) : PySem.W.kitOne K (.ref C) (.ref M) = some false := by
  unfold PySem.W.kitOne
  split
  · rename_i q
    cases (Value.ref.inj (beq_iff_eq.mp q) : C = M)
    rw [h0] at h3
    cases h3
  · show (if ((PySem.W.clsIn K M).isSome && PySem.W.typeIn K (.ref M) == some (.type "type")) = true then PySem.W.subIn K (.ref C) (.ref M) else none) = some false
    have h1 : (PySem.W.clsIn K M).isSome = true := h1
    rw [h1, h2, if_pos (by decide)]
    exact h3
section
variable {X : Cx} {B : Bs} {ca : Str -> Addr} {fd : Str} {E : St -> XK} {pos : Pos} {tg iter elt : Expr} {ifs : List Expr} {scope : Scope} {own : List Str} {cap : List (Str × Nat)} {t : Tgt} {tc : EnvD -> Option Bool} {ge : EnvD -> Option D} {gx : EnvD -> Option Xv} {gi : EnvD -> Option (List D)}
theorem dv_compE (hc : X.calm = true) (S : CompScope X scope own cap) (hi : DI X B (fun H => H) tg iter gi) (ht : ∀ i ∈ t.slots, i < own.length) (hstk : X.stack = X.env :: X.outer /\ X.env.frame = some X.env.locals)
    (hexit : ∀ pins σ H2 s2 ea C dd a0 T H' s', Inv X pins σ H2 s2 -> Inv X pins σ H' s' -> s2.heap.objs.size <= ea -> H' ea = none -> s2.heap.objs.size <= T -> H' T = none -> Trf s'.heap ea C dd a0 (some T) -> E σ C dd H' -> X.xe (.ref ea) s')
    (hin : ∀ (B' : Bs) C s₀ H₀ fp pn, PG (cxc X scope C (own ++ cap.map (·.1)) s₀ H₀ fp pn) tg (tgT X.kw t) /\ DIfs (cxc X scope C (own ++ cap.map (·.1)) s₀ H₀ fp pn) B' ifs tc)
    (he : ∀ (B' : Bs) C s₀ H₀ fp pn pc (E' : St -> XK), DE (cxT (cxc X scope C (own ++ cap.map (·.1)) s₀ H₀ fp pn) pc (WX (cxc X scope C (own ++ cap.map (·.1)) s₀ H₀ fp pn) pc E')).nox B' elt ge)
    (hx : ∀ (B' : Bs) C s₀ H₀ fp pn pc (E' : St -> XK), DV (cxT (cxc X scope C (own ++ cap.map (·.1)) s₀ H₀ fp pn) pc (WX (cxc X scope C (own ++ cap.map (·.1)) s₀ H₀ fp pn) pc E')) B' ca fd E' elt gx)
    (hs : ∀ x, foldedSetIterable iter X.env x = pure x := by intro _; rfl) : DV X B ca fd E (.ListComp elt [⟨tg, iter, ifs, 0⟩] scope pos) (yComp own cap t tc ge gx gi) :=
  dv_comp (post := pE X.kw) hc S hi ht hstk hexit hin (fun B' C s₀ H₀ fp pn pc E' => ⟨he B' C s₀ H₀ fp pn pc E', hx B' C s₀ H₀ fp pn pc E'⟩) hs
end
end Dv
namespace Dv
open PySem PySem.Spec L2 L3 L4
open PyProof.Rows hiding St
section
variable {X : Cx} {B : Bs} {a e o : Expr} {es : List Expr} {pos p apos cpos : Pos} {g go : EnvD -> Option D} {gs : EnvD -> Option (List D)}
def FEW : Nat := 1000000000000
def numT (i : Int) : Str := Str.ofString (toString i)
theorem few_log {i : Int} (h : i.natAbs < FEW) : i.natAbs.log2 < 1920 := by
  by_cases z : i.natAbs = 0
  · rw [z]; decide
  · exact (Nat.log2_lt z).mpr (Nat.lt_trans h (Nat.lt_of_lt_of_le (by decide : FEW < 2 ^ 40) (Nat.pow_le_pow_right (by decide) (by decide))))
def fStr : List D -> Option D
  | [.int i] => if i.natAbs < FEW then some (.str (numT i)) else none
  | _ => none
theorem call_str1 : CallR X (.type "str") (fun xs H Q => ∃ i, xs = [.int i] /\ i.natAbs < FEW /\ Q (.str (numT i)) H) := by
  intro pins s σ H xs us Q I r h
  obtain ⟨i, rfl, hi, q⟩ := h
  obtain ⟨u, rfl, t, rfl⟩ := vals1 r
  exact PySem.P.str_of_int (few_log hi) ⟨.str (numT i), H, I.tok _, ⟨_, rfl⟩, q⟩
theorem ok_str {K : KW} : CallOk K (fun xs H Q => ∃ i, xs = [.int i] /\ i.natAbs < FEW /\ Q (.str (numT i)) H) (pE K) fStr := by
  intro F H vs ds d Q s hp e k
  unfold fStr at e
  split at e
  · split at e
    · rename_i hi
      cases e
      obtain ⟨v, rfl, r⟩ := pair1 hp
      cases r.int
      exact ⟨_, rfl, hi, k _ F H (.refl s) rfl⟩
    · cases e
  · cases e
theorem de_strc (hg : Gl X "str") (hm : X.mg "str" = none) (ha : DRs X B [a] gs) (he : starEach [a] X.env = (false, eval a X.env) :: starEach [] X.env := by rfl) (hpl : (backTo pos (starEach [] X.env)).any (·.1) = false := by rfl) :
    DE X B (.Call (.Name "str" p) [a] [] pos) (gB fStr gs) := de_callTy call_str1 ok_str hg hm (by decide +kernel) ha (by decide) (by decide) he hpl
def fIntT : List D -> Option D
  | [.str x] => if x.length <= 640 then (intText? x).map D.int else none
  | _ => none
theorem call_intT : CallR X (.type "int") (fun xs H Q => ∃ x n, xs = [.str x] /\ intText? x = some n /\ x.length <= 640 /\ Q (.int n) H) := by
  intro pins s σ H xs us Q I r h
  obtain ⟨x, n, rfl, hx, hl, q⟩ := h
  obtain ⟨u, rfl, t, rfl⟩ := vals1 r
  exact PySem.W.KIN.call_text hx hl ⟨.int n, H, I.tok _, ⟨_, rfl⟩, q⟩
theorem ok_intT {K : KW} : CallOk K (fun xs H Q => ∃ x n, xs = [.str x] /\ intText? x = some n /\ x.length <= 640 /\ Q (.int n) H) (pE K) fIntT := by
  intro F H vs ds d Q s hp e k
  unfold fIntT at e
  split at e
  · rename_i x
    split at e
    · rename_i hl
      cases q : intText? x with
      | none => rw [q] at e; cases e
      | some n =>
        rw [q] at e
        cases e
        obtain ⟨v, rfl, r⟩ := pair1 hp
        cases r.str
        exact ⟨x, n, rfl, q, hl, k _ F H (.refl s) rfl⟩
    · cases e
  · cases e
theorem de_intT (hg : Gl X "int") (hm : X.mg "int" = none) (ha : DRs X B [a] gs) (he : starEach [a] X.env = (false, eval a X.env) :: starEach [] X.env := by rfl) (hpl : (backTo pos (starEach [] X.env)).any (·.1) = false := by rfl) :
    DE X B (.Call (.Name "int" p) [a] [] pos) (gB fIntT gs) := de_callTy call_intT ok_intT hg hm (by decide +kernel) ha (by decide) (by decide) he hpl
def part3 (z y : Str) : List Str := [(Txt.partition z y).1, (Txt.partition z y).2.1, (Txt.partition z y).2.2]
theorem mt_part : MtR X "str.partition" (fun x vs H Q => ∃ z y : Str, x = .str z /\ vs = [.str y] /\ (y.length == 0) = false /\ z.length <= sizeLine /\ ∀ D, H D = none -> Q (.ref D) (upd H D (.tup ((part3 z y).map V.str)))) := by
  intro pins s σ H x vs v us Q I rx rv h
  obtain ⟨z, y, rfl, rfl, hy, hz, q⟩ := h
  obtain ⟨t, rfl⟩ := rx
  obtain ⟨u, rfl, ru⟩ := rv.one
  obtain ⟨t', rfl⟩ := ru
  have hf : H s.heap.objs.size = none := I.hok.fresh (Nat.le_refl _)
  refine call_meets PySem.F.slot_str_partition (typeIs_str _ _ _) PySem.F.entry_str_partition (PySem.F.args_str_partition_2 _ _) (meets_str_partition z y t t' hy hz) ?_
  have q' := q _ hf
  unfold part3 Txt.partition at q'
  revert q'
  cases Builtin.Str.occurrences z y 0 z.length 1 with
  | nil =>
    intro q'
    refine ⟨.ref s.heap.objs.size, _, I.laid (fun b u e => Heap.get?_push_of_some _ e) (Nat.le_refl _) ?_, rfl, q'⟩
    exact ⟨by rw [sizeLine_eq]; simp, _, .cons ⟨_, rfl⟩ (.cons ⟨_, rfl⟩ (.cons ⟨_, rfl⟩ .nil)), ⟨_, Heap.get?_push_size _ rfl, rfl, _, rfl⟩⟩
  | cons i r =>
    intro q'
    refine ⟨.ref s.heap.objs.size, _, I.laid (fun b u e => Heap.get?_push_of_some _ e) (Nat.le_refl _) ?_, rfl, q'⟩
    exact ⟨by rw [sizeLine_eq]; simp, _, .cons ⟨_, rfl⟩ (.cons ⟨_, rfl⟩ (.cons ⟨_, rfl⟩ .nil)), ⟨_, Heap.get?_push_size _ rfl, rfl, _, rfl⟩⟩
def fPart : D -> List D -> Option D
  | .str z, [.str y] => if (y.length == 0) = false /\ z.length <= TOP then some (.tup ((part3 z y).map D.str)) else none
  | _, _ => none
theorem de_part (ho : DR X B o go) (ha : DRs X B [e] gs)
    (hbase : attributeBase o "partition" X.env (eval o X.env) = eval o X.env := by rfl)
    (hfew : ((backTo cpos (starEach [e] X.env)).all (fun x => !x.1) && (backToKw cpos (keywordEach [] X.env)).all (fun x => x.1.isSome)
      && decide (([e] : List Expr).length + ([] : List Keyword).length + (if ([] : List Keyword).isEmpty then 0 else 1) < 30)) = true := by rfl)
    (hline : (apos.endLine == cpos.line) = true := by rfl) (hs : starEach [e] X.env = (false, eval e X.env) :: starEach [] X.env := by rfl) (hplain : (backTo cpos (starEach [] X.env)).any (·.1) = false := by rfl) :
    DE X B (.Call (.Attribute o "partition" apos) [e] [] cpos) (gSM fPart go gs) :=
  pe_imp (pe_bm PySem.F.plainAttrs_str PySem.F.slot_str_partition PySem.F.type_str_partition mt_part ho ha hbase hfew hline hs hplain) fun σ H Q ⟨F, ρ, d, r, hg, k⟩ => by
    obtain ⟨d1, ds, q1, q2, q3⟩ := bind2 hg
    unfold fPart at q3
    split at q3
    · rename_i z y
      split at q3
      · rename_i hc
        cases q3
        refine ⟨F, ρ, _, r, q1, fun v F1 H1 e1 p1 => ?_⟩
        cases p1.str
        refine ⟨rfl, F1, ρ, _, r.ext e1, q2, fun vs F2 H2 e2 p2 => ?_⟩
        obtain ⟨w, rfl, rw'⟩ := pair1 p2
        cases rw'.str
        refine ⟨z, y, rfl, rfl, hc.1, top_line hc.2, fun D hD => ?_⟩
        have e3 := e1.trans e2
        exact k _ (upd F2 D (.tup ((part3 z y).map V.str))) _ (e3.trans (.newF e3.fh hD)) ⟨D, _, rfl, upd_same, rps_strs _⟩
      · cases q3
    · cases q3
theorem vals_splits : ∀ l : List (Str × Tok), Vals ((l.map (·.1)).map V.str) (strValues l)
  | [] => .nil
  | x :: l => .cons ⟨_, rfl⟩ (vals_splits l)
theorem split_call {z y : Str} {t u : Tok} {s : Shared} {prog : Program} {w : World} {A : Around} {E : Value -> Shared -> Prop} {Q : Value -> Shared -> Prop} (hy : (y.length == 0) = false) (hz : z.length + 2 <= sizeLine)
    (h : ∀ l k, l.map (·.1) = Txt.split z y -> Q (.ref s.heap.objs.size) { s with heap := s.heap.push { cls := .type "list", data := .seq (strValues l).toArray }, toks := k }) : wpAny (model prog w) A (call (.builtin "str.split") [.str z t, .str y u]) Q E s := by
  have hn : (Builtin.Str.partsBetween z (Builtin.Str.occurrences z y 0 z.length (z.length + 1)) y.length).length <= sizeLine := by
    have := StrLaws.occ_length_le z y 0 z.length (z.length + 1)
    rw [length_partsBetween]; omega
  cases c1 : (decide (z.length < y.length) || decide (Builtin.Str.strKind z < Builtin.Str.strKind y)) with
  | true => exact call_meets PySem.F.slot_str_split (typeIs_str _ _ _) PySem.F.entry_str_split (PySem.F.args_str_split_2 _ _) (meets_str_split_cannot_occur z y t u c1) (h [(z, t)] s.toks (if_pos c1).symm)
  | false =>
    cases c2 : (Builtin.Str.occurrences z y 0 z.length (z.length + 1)).isEmpty with
    | true => exact call_meets PySem.F.slot_str_split (typeIs_str _ _ _) PySem.F.entry_str_split (PySem.F.args_str_split_2 _ _) (meets_str_split_not_found z y t u c1 hy c2) (h [(z, t)] s.toks ((if_neg (ne_true_of_eq_false c1)).trans (if_pos c2)).symm)
    | false =>
      refine call_meets PySem.F.slot_str_split (typeIs_str _ _ _) PySem.F.entry_str_split (PySem.F.args_str_split_2 _ _) (meets_str_split_sep z y t u c1 hy c2 (by omega) hn) ?_
      have := h (numbered s.toks (Builtin.Str.partsBetween z (Builtin.Str.occurrences z y 0 z.length (z.length + 1)) y.length)) (s.toks + (Builtin.Str.partsBetween z (Builtin.Str.occurrences z y 0 z.length (z.length + 1)) y.length).length) ((numbered_texts _ _).trans ((if_neg (ne_true_of_eq_false c1)).trans (if_neg (ne_true_of_eq_false c2))).symm)
      rw [<- strsFrom_eq] at this
      exact this
theorem split_few (z y : Str) : (Txt.split z y).length <= z.length + 2 := by
  have h0 := StrLaws.occ_length_le z y 0 z.length (z.length + 1)
  unfold Txt.split
  split
  · simp
  · split
    · simp
    · rw [length_partsBetween]; omega
theorem mt_split : MtR X "str.split" (fun x vs H Q => ∃ z y : Str, x = .str z /\ vs = [.str y] /\ (y.length == 0) = false /\ z.length + 2 <= sizeLine /\ ∀ D, H D = none -> Q (.ref D) (upd H D (.lst ((Txt.split z y).map V.str)))) := by
  intro pins s σ H x vs v us Q I rx rv h
  obtain ⟨z, y, rfl, rfl, hy, hz, q⟩ := h
  obtain ⟨t, rfl⟩ := rx
  obtain ⟨u, rfl, ru⟩ := rv.one
  obtain ⟨t', rfl⟩ := ru
  have hf : H s.heap.objs.size = none := I.hok.fresh (Nat.le_refl _)
  refine split_call hy hz fun l k el => ?_
  refine ⟨.ref s.heap.objs.size, upd H s.heap.objs.size (.lst ((Txt.split z y).map V.str)), I.laid (fun b u e => Heap.get?_push_of_some _ e) (Nat.le_refl _) ?_, rfl, q _ hf⟩
  have := split_few z y
  exact ⟨by rw [List.length_map]; omega, _, 0, by rw [<- el]; exact vals_splits l, Heap.get?_push_size _ rfl⟩
def fSplit : D -> List D -> Option (List D)
  | .str z, [.str y] => if (y.length == 0) = false /\ z.length + 2 <= TOP then some ((Txt.split z y).map D.str) else none
  | _, _ => none
def gSML (f : D -> List D -> Option (List D)) (go : EnvD -> Option D) (gs : EnvD -> Option (List D)) : EnvD -> Option (List D) := fun ρ => (go ρ).bind fun d => (gs ρ).bind fun ds => f d ds
theorem bind2L {f : D -> List D -> Option (List D)} {ρ : EnvD} {x : List D} (h : gSML f go gs ρ = some x) : ∃ d ds, go ρ = some d /\ gs ρ = some ds /\ f d ds = some x := by
  unfold gSML at h
  cases q : go ρ with
  | none => rw [q] at h; cases h
  | some d =>
    rw [q] at h
    cases q2 : gs ρ with
    | none => rw [q2] at h; cases h
    | some ds => rw [q2] at h; exact ⟨d, ds, rfl, rfl, h⟩
theorem da_split (ho : DR X B o go) (ha : DRs X B [e] gs)
    (hbase : attributeBase o "split" X.env (eval o X.env) = eval o X.env := by rfl)
    (hfew : ((backTo cpos (starEach [e] X.env)).all (fun x => !x.1) && (backToKw cpos (keywordEach [] X.env)).all (fun x => x.1.isSome)
      && decide (([e] : List Expr).length + ([] : List Keyword).length + (if ([] : List Keyword).isEmpty then 0 else 1) < 30)) = true := by rfl)
    (hline : (apos.endLine == cpos.line) = true := by rfl) (hs : starEach [e] X.env = (false, eval e X.env) :: starEach [] X.env := by rfl) (hplain : (backTo cpos (starEach [] X.env)).any (·.1) = false := by rfl) :
    DA X B (.Call (.Attribute o "split" apos) [e] [] cpos) (gSML fSplit go gs) :=
  pe_imp (pe_bm PySem.F.plainAttrs_str PySem.F.slot_str_split PySem.F.type_str_split mt_split ho ha hbase hfew hline hs hplain) fun σ H Q ⟨F, ρ, d, r, hg, k⟩ => by
    obtain ⟨d1, ds, q1, q2, q3⟩ := bind2L hg
    unfold fSplit at q3
    split at q3
    · rename_i z y
      split at q3
      · rename_i hc
        cases q3
        refine ⟨F, ρ, _, r, q1, fun v F1 H1 e1 p1 => ?_⟩
        cases p1.str
        refine ⟨rfl, F1, ρ, _, r.ext e1, q2, fun vs F2 H2 e2 p2 => ?_⟩
        obtain ⟨w, rfl, rw'⟩ := pair1 p2
        cases rw'.str
        refine ⟨z, y, rfl, rfl, hc.1, top_line hc.2, fun D hD => ?_⟩
        have e3 := e1.trans e2
        have hH : H D = none := by
          cases q5 : H D with
          | none => rfl
          | some o' => have := e3.hh _ _ q5; rw [this] at hD; cases hD
        exact k _ F2 _ (e3.trans (.new e3.fh hD)) ⟨D, _, rfl, hH, upd_same, e3.fh.free hD, rps_strs _⟩
      · cases q3
    · cases q3
end
section
variable {ρ : EnvD} {g go : EnvD -> Option D} {gs : EnvD -> Option (List D)} {gj : EnvD -> Option Str}
@[simp] theorem ev_fStr {i : Int} : fStr [.int i] = if i.natAbs < FEW then some (.str (numT i)) else none := rfl
@[simp] theorem ev_gSML {f : D -> List D -> Option (List D)} : gSML f go gs ρ = (go ρ).bind fun d => (gs ρ).bind fun ds => f d ds := rfl
@[simp] theorem ev_fPart {z y : Str} : fPart (.str z) [.str y] = if (y.length == 0) = false /\ z.length <= TOP then some (.tup ((part3 z y).map D.str)) else none := rfl
@[simp] theorem ev_fSplit {z y : Str} : fSplit (.str z) [.str y] = if (y.length == 0) = false /\ z.length + 2 <= TOP then some ((Txt.split z y).map D.str) else none := rfl
end
section
variable {X : Cx} {B : Bs} {tg iter : Expr} {pos : Pos} {gi : EnvD -> Option (List D)}
end
section
variable {K : KW} {B : Bs} {F H : Hp} {σ : St} {ρ : EnvD}
end
section
variable {X : Cx} {B : Bs} {tg e ck c re : Expr} {es : List Expr} {x y nm : Str} {pos p2 p3 p4 p5 ip rp apos cpos : Pos} {id : String} {r : V -> List V -> Hp -> VK -> Prop} {f : List D -> List D -> Option (List D)} {gs : EnvD -> Option (List D)} {dd : List D} {gt : EnvD -> Option Bool} {ge : EnvD -> Option D}
end
end Dv
namespace QM
variable {α : Type} [DecidableEq α]
abbrev Tk (α : Type) := α × Int
def srv (m : Nat) (q : List (Tk α)) : List α := (q.take m).map (·.1)
def beh (m : Nat) (q : List (Tk α)) : List (Tk α) := ((q.take m).filter fun t => decide (1 < t.2)).map (fun t => (t.1, t.2 - 1)) ++ q.drop m
def walk (f : Int -> Int) : Int -> List (Tk α) -> List (Int × List α) -> Option (List (Tk α))
  | _, q, [] => some q
  | due, q, r :: rs => if q = [] ∨ r.1 ≠ due ∨ r.2 ≠ srv (f due).toNat q then none else walk f (due + 1) (beh (f due).toNat q) rs
end QM
namespace Dv
open PySem PySem.Spec L2 L3 L4 QM
open PyProof.Rows hiding St
def tkD (t : Str × Int) : D := .tup [.str t.1, .int t.2]
def rnD (r : Int × List Str) : D := .tup [.int r.1, .lst (r.2.map D.str)]
abbrev Ok (x : Str) : Prop := PyData.strOk x = true
theorem toPs_map {α : Type} {f : α -> D} : ∀ (l : List α), toPs (l.map f) = l.map fun x => toP (f x)
  | [] => rfl
  | x :: l => by simp [toPs, toPs_map l]
theorem eqvAll_map {α : Type} [DecidableEq α] {f : α -> PyData} (hf : ∀ x y, PyData.eqv (f x) (f y) = decide (x = y)) : ∀ (xs ys : List α), PyData.eqvAll (xs.map f) (ys.map f) = decide (xs = ys)
  | [], [] => rfl
  | [], _ :: _ => rfl
  | _ :: _, [] => rfl
  | x :: xs, y :: ys => by
    show (PyData.eqv (f x) (f y) && PyData.eqvAll (xs.map f) (ys.map f)) = _
    rw [hf, eqvAll_map hf xs ys]
    by_cases h1 : x = y <;> by_cases h2 : xs = ys <;> simp [h1, h2]
theorem eqv_str (x y : Str) : PyData.eqv (.str x) (.str y) = decide (x = y) := by
  show (x == y) = _
  by_cases h : x = y
  · subst h; simp
  · simp [h]
theorem eqv_int (x y : Int) : PyData.eqv (.int x) (.int y) = decide (x = y) := by
  show (x == y) = _
  by_cases h : x = y
  · subst h; simp
  · simp [h]
theorem eqv_strs (xs ys : List Str) : PyData.eqv (toP (.lst (xs.map D.str))) (toP (.lst (ys.map D.str))) = decide (xs = ys) := by
  show PyData.eqvAll (toPs (xs.map D.str)) (toPs (ys.map D.str)) = _
  rw [toPs_map, toPs_map]
  exact eqvAll_map (f := PyData.str) eqv_str xs ys
theorem eqv_tk (x y : Str × Int) : PyData.eqv (toP (tkD x)) (toP (tkD y)) = decide (x = y) := by
  show (PyData.eqv (.str x.1) (.str y.1) && (PyData.eqv (.int x.2) (.int y.2) && true)) = _
  rw [eqv_str, eqv_int]
  obtain ⟨a, b⟩ := x
  obtain ⟨c, d⟩ := y
  by_cases h1 : a = c <;> by_cases h2 : b = d <;> simp [h1, h2]
theorem eqv_tks (xs ys : List (Str × Int)) : PyData.eqv (toP (.lst (xs.map tkD))) (toP (.lst (ys.map tkD))) = decide (xs = ys) := by
  show PyData.eqvAll (toPs (xs.map tkD)) (toPs (ys.map tkD)) = _
  rw [toPs_map, toPs_map]
  exact eqvAll_map (f := fun x => toP (tkD x)) eqv_tk xs ys
theorem eqv_rn (x y : Int × List Str) : PyData.eqv (toP (rnD x)) (toP (rnD y)) = decide (x = y) := by
  show (PyData.eqv (.int x.1) (.int y.1) && (PyData.eqv (toP (.lst (x.2.map D.str))) (toP (.lst (y.2.map D.str))) && true)) = _
  rw [eqv_strs, eqv_int]
  obtain ⟨a, b⟩ := x
  obtain ⟨c, d⟩ := y
  by_cases h1 : a = c <;> by_cases h2 : b = d <;> simp [h1, h2]
theorem eqv_rns (xs ys : List (Int × List Str)) : PyData.eqv (toP (.lst (xs.map rnD))) (toP (.lst (ys.map rnD))) = decide (xs = ys) := by
  show PyData.eqvAll (toPs (xs.map rnD)) (toPs (ys.map rnD)) = _
  rw [toPs_map, toPs_map]
  exact eqvAll_map (f := fun x => toP (rnD x)) eqv_rn xs ys
theorem lay_all {α : Type} {f : α -> PyData} : ∀ (xs : List α), (∀ x ∈ xs, PyData.canLay0 (f x) = true) -> PyData.canLayAll0 (xs.map f) = true
  | [], _ => rfl
  | x :: xs, h => by
    show (PyData.canLay0 (f x) && PyData.canLayAll0 (xs.map f)) = true
    rw [h x (by simp), lay_all xs fun y hy => h y (by simp [hy])]; rfl
theorem depth_all {α : Type} {f : α -> PyData} {n : Nat} : ∀ (xs : List α), (∀ x ∈ xs, PyData.depth (f x) <= n) -> PyData.depthAll (xs.map f) <= n
  | [], _ => Nat.zero_le _
  | x :: xs, h => by
    have h1 := h x (by simp)
    have h2 := depth_all xs fun y hy => h y (by simp [hy])
    show max (PyData.depth (f x)) (PyData.depthAll (xs.map f)) <= n
    omega
def Lay (n : Nat) (d : D) : Prop := (toP d).canLay0 = true /\ (toP d).depth <= n
theorem Lay.ok {n : Nat} {d : D} (h : Lay n d) (hn : n <= 64) : eqOk d = true := by
  unfold eqOk SeqAt.shaped
  rw [h.1]
  simpa using Nat.le_trans h.2 hn
theorem lay_str {x : Str} (h : Ok x) : Lay 0 (.str x) := ⟨h, Nat.le_refl _⟩
theorem lay_lst {α : Type} {f : α -> D} {n : Nat} {xs : List α} (h : ∀ x ∈ xs, Lay n (f x)) : Lay (n + 1) (.lst (xs.map f)) := by
  refine ⟨?_, ?_⟩
  · show PyData.canLayAll0 (toPs (xs.map f)) = true
    rw [toPs_map]; exact lay_all xs fun x hx => (h x hx).1
  · show PyData.depthAll (toPs (xs.map f)) + 1 <= n + 1
    rw [toPs_map]
    exact Nat.succ_le_succ (depth_all xs fun x hx => (h x hx).2)
theorem lay_tk {t : Str × Int} (h : Ok t.1) : Lay 1 (tkD t) := by
  refine ⟨?_, ?_⟩
  · show (PyData.canLay0 (.str t.1) && (PyData.canLay0 (.int t.2) && true)) = true
    rw [show PyData.canLay0 (.str t.1) = true from h]; rfl
  · show max 0 (max 0 0) + 1 <= 1; omega
theorem lay_strs {xs : List Str} (h : ∀ x ∈ xs, Ok x) : Lay 1 (.lst (xs.map D.str)) := lay_lst fun x hx => lay_str (h x hx)
theorem lay_tks {q : List (Str × Int)} (h : ∀ t ∈ q, Ok t.1) : Lay 2 (.lst (q.map tkD)) := lay_lst fun t ht => lay_tk (h t ht)
theorem lay_rn {r : Int × List Str} (h : ∀ x ∈ r.2, Ok x) : Lay 2 (rnD r) := by
  obtain ⟨h1, h2⟩ := lay_strs h
  refine ⟨?_, ?_⟩
  · show (PyData.canLay0 (.int r.1) && ((toP (.lst (r.2.map D.str))).canLay0 && true)) = true
    rw [h1]; rfl
  · show max 0 (max ((toP (.lst (r.2.map D.str))).depth) 0) + 1 <= 2; omega
theorem lay_rns {rs : List (Int × List Str)} (h : ∀ r ∈ rs, ∀ x ∈ r.2, Ok x) : Lay 3 (.lst (rs.map rnD)) := lay_lst fun r hr => lay_rn (h r hr)
theorem fEq_of {neg : Bool} {x y : D} {n m : Nat} {b : Bool} (hx : Lay n x) (hy : Lay m y) (hn : n <= 64) (hm : m <= 64) (e : PyData.eqv (toP x) (toP y) = b) : fEq neg x y = some (.bl (if neg then !b else b)) := by
  unfold fEq eqD
  rw [hx.ok hn, hy.ok hm, e]; rfl
end Dv
namespace QM
variable {α : Type} [DecidableEq α]
inductive Run (f : Int -> Int) : Int -> List (Tk α) -> List (Int × List α) -> Prop
  | nil (x : Int) : Run f x [] []
  | cons {x : Int} {q : List (Tk α)} {rs : List (Int × List α)} : q ≠ [] -> Run f (x + 1) (beh (f x).toNat q) rs -> Run f x q ((x, srv (f x).toNat q) :: rs)
variable {f : Int -> Int} {x : Int} {q q' : List (Tk α)} {rows rows' tl : List (Int × List α)} {v : α}
end QM
namespace Dv
open PySem PySem.Spec L2 L3 L4 QM
open PyProof.Rows hiding St
def mk (l : List Nat) : Str := ⟨l.toArray⟩
theorem mk_app (a b : List Nat) : mk a ++ mk b = mk (a ++ b) := by
  show (⟨a.toArray ++ b.toArray⟩ : Str) = ⟨(a ++ b).toArray⟩
  simp
theorem mk_len (l : List Nat) : (mk l).length = l.length := by simp [mk, Str.length]
theorem item_mk {l : List Nat} {a : Int} (h : l.length <= TOP) (h1 : 0 <= a) (h2 : a < l.length) : fItem (.str (mk l)) (.int a) = some (.str (mk [l.getD a.toNat 0])) := by
  rw [ev_fItemS, if_pos (by rw [mk_len]; exact h)]
  obtain ⟨v, e1, e2⟩ := atI_pos (xs := l) h1 h2
  have e3 : l.getD a.toNat 0 = v := by rw [List.getD_eq_getElem?_getD, e2]; rfl
  rw [e3, show (mk l).cps.toList = l by simp [mk], e1]
  rfl
def SIGNS : Str := "abcdefghijklmnopqrstuvwxyz0123456789"
def S36 : List Nat := [97, 98, 99, 100, 101, 102, 103, 104, 105, 106, 107, 108, 109, 110, 111, 112, 113, 114, 115, 116, 117, 118, 119, 120, 121, 122, 48, 49, 50, 51, 52, 53, 54, 55, 56, 57]
theorem signs_mk : SIGNS = mk S36 := by decide +kernel
def sg (a : Int) : Nat := S36.getD a.toNat 0
theorem sg_item {a : Int} (h1 : 0 <= a) (h2 : a < 36) : fItem (.str SIGNS) (.int a) = some (.str (mk [sg a])) := by
  rw [signs_mk]
  have hl : (S36.length : Int) = 36 := by decide
  exact item_mk (by decide) h1 (by omega)
theorem sg_mem {a : Int} (h1 : 0 <= a) (h2 : a < 36) : sg a ∈ S36 := by
  unfold sg
  have hl : S36.length = 36 := by decide
  have : a.toNat < S36.length := by omega
  rw [List.getD_eq_getElem?_getD, List.getElem?_eq_getElem this]
  exact List.getElem_mem _
theorem sg_inj {a b : Int} (h1 : 0 <= a) (h2 : a < 36) (h3 : 0 <= b) (h4 : b < 36) (e : sg a = sg b) : a = b := by
  unfold sg at e
  have hl : S36.length = 36 := by decide
  have ha : a.toNat < S36.length := by omega
  have hb : b.toNat < S36.length := by omega
  rw [List.getD_eq_getElem?_getD, List.getD_eq_getElem?_getD, List.getElem?_eq_getElem ha, List.getElem?_eq_getElem hb] at e
  have nd : S36.Nodup := by decide +kernel
  have := (List.getElem_inj nd).mp e
  omega
def NameOk (x : Str) : Prop := ∃ c cs, x = mk (c :: cs) /\ c ∈ S36.take 26 /\ (∀ d ∈ cs, d ∈ S36) /\ cs.length <= 7
theorem ch_mk (l : List Nat) : chD (mk l) = l.map fun c => D.str (mk [c]) := by simp [chD, mk]
end Dv
namespace HM
abbrev Row := Int × Int
def Pos (l : List Row) : Prop := ∀ r ∈ l, 0 < r.1 /\ 0 <= r.2
def nextC (rest : Int) : List Row -> Int
  | [] => rest
  | r :: _ => r.2
def Norm (rest : Int) : List Row -> Prop
  | [] => True
  | r :: rs => nextC rest rs ≠ r.2 /\ Norm rest rs
def Inv (acc : List Row) : Prop := acc = [] ∨ ∃ pre a c, acc = pre ++ [(a, c)] /\ Norm c pre
structure Same {α : Type} (rest : Int) (Φ : List Row -> α) : Prop where
  merge : ∀ pre a b c tl, Pos pre -> Pos tl -> 0 < a -> 0 < b -> Φ (pre ++ (a, c) :: (b, c) :: tl) = Φ (pre ++ (a + b, c) :: tl)
  drop : ∀ pre a, Pos pre -> 0 < a -> Φ (pre ++ [(a, rest)]) = Φ pre
end HM
namespace Dv
open PySem PySem.Spec L2 L3 L4 QM
open PyProof.Rows hiding St
abbrev SI := List (Str × Int)
def kv (q : SI) : List (Key × D) := q.map fun t => (.inr t.1, .int t.2)
end Dv
namespace QM
variable {α : Type} [DecidableEq α]
inductive Eas : List (Tk α) -> List (Tk α) -> Prop
  | nil : Eas [] []
  | skip {t : Tk α} {p q : List (Tk α)} : Eas p q -> Eas p (t :: q)
  | keep {n : α} {a b : Int} {p q : List (Tk α)} : b <= a -> Eas p q -> Eas ((n, b) :: p) ((n, a) :: q)
def val (q : List (Tk α)) (n : α) : Int := ((q.find? fun t => decide (t.1 = n)).map (·.2)).getD 0
variable {f g : Int -> Int}
end QM
namespace Dv
open PySem PySem.Spec L2 L3 L4 QM
open PyProof.Rows hiding St
variable {f : Int -> Int}
def ra (f : Int -> Int) : Int -> SI -> Nat -> List (Int × List Str)
  | _, _, 0 => []
  | x, A, k + 1 => (x, srv (f x).toNat A) :: ra f (x + 1) (beh (f x).toNat A) k
def hb (rows : List (Int × List Str)) (n : Str) (t : Int) : Nat := (rows.filter fun r => decide (r.1 <= t) && decide (n ∈ r.2)).length
end Dv
namespace Dv
open PySem PySem.Spec L2 L3 L4
open PyProof.Rows hiding St
section
variable {i : Nat} {g : EnvD -> Option D} {gl gi : EnvD -> Option (List D)} {gk : EnvD -> Option (List (Key × D))} {gb : EnvD -> Option Bool} {b s1 s2 : SD} {ρ ρ' : EnvD} {d : D} {ds : List D} {kvs : List (Key × D)} {r : Option Fl} {t : Tgt}
end
end Dv
namespace QX
open PySem PySem.StrLaws PySem.Builtin PySem.Builtin.Str
def ml (l : List Nat) : PySem.Str := ⟨l.toArray⟩
theorem ml_list (l : List Nat) : (ml l).cps.toList = l := by simp [ml]
theorem ml_len (l : List Nat) : (ml l).length = l.length := by simp [ml, PySem.Str.length]
theorem ml_eq {x : PySem.Str} {l : List Nat} (h : x.cps.toList = l) : x = ml l := by
  obtain ⟨a⟩ := x
  subst h
  simp [ml]
def hitsL (sub : List Nat) : Nat -> List Nat -> List Nat
  | _, [] => []
  | k, a :: l => if sub.isPrefixOf (a :: l) then k :: hitsL sub (k + 1) l else hitsL sub (k + 1) l
theorem hits_ge (sub : List Nat) : ∀ (l : List Nat) (k i : Nat), i ∈ hitsL sub k l -> k <= i
  | [], k, i, h => by simp [hitsL] at h
  | a :: l, k, i, h => by
    simp only [hitsL] at h
    split at h
    · rcases List.mem_cons.mp h with rfl | h
      · exact Nat.le_refl _
      · have := hits_ge sub l (k + 1) i h; omega
    · have := hits_ge sub l (k + 1) i h; omega
theorem hits_pass {c : Nat} {cs : List Nat} : ∀ (p l : List Nat) (k : Nat), c ∉ p -> hitsL (c :: cs) k (p ++ l) = hitsL (c :: cs) (k + p.length) l
  | [], l, k, _ => rfl
  | a :: p, l, k, h => by
    have hne : ¬ c = a := fun z => h (by simp [z])
    have ih := hits_pass p l (k + 1) (c := c) (cs := cs) fun z => h (by simp [z])
    simp only [List.cons_append, hitsL, List.isPrefixOf_cons₂, List.length_cons]
    rw [if_neg (by simp [hne]), ih]
    congr 1; omega
theorem hits_word {c : Nat} {cs : List Nat} (hc : c ∉ cs) (l : List Nat) (k : Nat) : hitsL (c :: cs) k (c :: cs ++ l) = k :: hitsL (c :: cs) (k + (c :: cs).length) l := by
  show hitsL (c :: cs) k (c :: (cs ++ l)) = _
  simp only [hitsL]
  rw [if_pos (by simp), hits_pass cs l (k + 1) hc]
  congr 2
  simp; omega
theorem at_iff {sub : List Nat} {pre : List Nat} {a : Nat} {suf : List Nat} : (pre.length + (ml sub).length <= (pre ++ a :: suf).length /\ subAt (ml (pre ++ a :: suf)) (ml sub) pre.length = true) ↔ sub.isPrefixOf (a :: suf) = true := by
  rw [subAt_eq, ml_list, ml_list, ml_len, List.drop_left, List.isPrefixOf_iff_prefix]
  constructor
  · rintro ⟨_, h⟩
    have h : (a :: suf).take sub.length = sub := by simpa using h
    exact List.prefix_iff_eq_take.mpr h.symm
  · intro h
    refine ⟨?_, ?_⟩
    · have := h.length_le
      simp only [List.length_append]; omega
    · have := List.prefix_iff_eq_take.mp h
      simp [<- this]
theorem occ_run {c : Nat} {cs : List Nat} (hc : c ∉ cs) (limit : Nat) (L : List Nat) : ∀ (suf pre : List Nat) (st : Array Nat × Nat), L = pre ++ suf -> (∀ i ∈ hitsL (c :: cs) pre.length suf, st.2 <= i) ->
    (forIn (List.range' pre.length (suf.length + 1)) st (occBody (ml L) (ml (c :: cs)) L.length limit)).run.fst.toList = st.1.toList ++ (hitsL (c :: cs) pre.length suf).take (limit - st.1.size)
  | [], pre, st, e, h => by
    have hn : ¬ (((st.1.size < limit /\ st.2 <= pre.length) /\ pre.length + (ml (c :: cs)).length <= L.length) /\ subAt (ml L) (ml (c :: cs)) pre.length = true) := fun z => by
      have := z.1.2
      rw [ml_len, e] at this
      simp at this
      omega
    simp only [List.length_nil, Nat.zero_add, List.range'_one, List.forIn_cons, List.forIn_nil]
    unfold occBody
    rw [if_neg hn]
    simp [hitsL]
  | a :: suf, pre, st, e, h => by
    have e' : L = (pre ++ [a]) ++ suf := by rw [e]; simp
    have el : (pre ++ [a]).length = pre.length + 1 := by simp
    rw [show (a :: suf).length + 1 = (suf.length + 1) + 1 from rfl, List.range'_succ, List.forIn_cons]
    unfold occBody
    have hi := at_iff (sub := c :: cs) (pre := pre) (a := a) (suf := suf)
    rw [<- e] at hi
    by_cases hp : (c :: cs).isPrefixOf (a :: suf) = true
    · have hm : pre.length ∈ hitsL (c :: cs) pre.length (a :: suf) := by simp only [hitsL, hp, if_true]; exact List.mem_cons_self
      have hfree := h _ hm
      have hh : hitsL (c :: cs) pre.length (a :: suf) = pre.length :: hitsL (c :: cs) (pre.length + 1) suf := by simp only [hitsL, hp, if_true]
      by_cases hs : st.1.size < limit
      · rw [if_pos ⟨⟨⟨hs, hfree⟩, (hi.mpr hp).1⟩, (hi.mpr hp).2⟩]
        have sp : ∀ i ∈ hitsL (c :: cs) (pre ++ [a]).length suf, pre.length + (ml (c :: cs)).length <= i := fun i hi' => by
          obtain ⟨r, hr⟩ := List.isPrefixOf_iff_prefix.mp hp
          have hr' : suf = cs ++ r := by
            have := congrArg List.tail hr
            simpa using this.symm
          rw [el, hr', hits_pass cs r _ hc] at hi'
          have := hits_ge _ _ _ _ hi'
          rw [ml_len]; simp; omega
        have ih := occ_run hc limit L suf (pre ++ [a]) (st.1.push pre.length, pre.length + (ml (c :: cs)).length) e' sp
        rw [el] at ih
        have ih2 := ih
        unfold occBody at ih2
        show (forIn (List.range' (pre.length + 1) (suf.length + 1)) (st.1.push pre.length, pre.length + (ml (c :: cs)).length) (occBody (ml L) (ml (c :: cs)) L.length limit)).run.fst.toList = _
        rw [ih, hh]
        have hk : limit - st.1.size = (limit - (st.1.push pre.length).size) + 1 := by simp; omega
        rw [hk, List.take_succ_cons]
        simp
      · rw [if_neg fun z => hs z.1.1.1]
        have ih := occ_run hc limit L suf (pre ++ [a]) st e' (fun i hi' => by
          rw [el] at hi'
          exact h i (by rw [hh]; exact List.mem_cons_of_mem _ hi'))
        rw [el] at ih
        show (forIn (List.range' (pre.length + 1) (suf.length + 1)) (st.1, st.2) (occBody (ml L) (ml (c :: cs)) L.length limit)).run.fst.toList = _
        rw [ih]
        have hk : limit - st.1.size = 0 := by omega
        rw [hk]; simp
    · rw [if_neg fun z => hp (hi.mp ⟨z.1.2, z.2⟩)]
      have hh : hitsL (c :: cs) pre.length (a :: suf) = hitsL (c :: cs) (pre.length + 1) suf := by simp only [hitsL]; rw [if_neg hp]
      have ih := occ_run hc limit L suf (pre ++ [a]) st e' (fun i hi' => by
        rw [el] at hi'
        exact h i (by rw [hh]; exact hi'))
      rw [el] at ih
      show (forIn (List.range' (pre.length + 1) (suf.length + 1)) (st.1, st.2) (occBody (ml L) (ml (c :: cs)) L.length limit)).run.fst.toList = _
      rw [ih, hh]
theorem occ_hits {c : Nat} {cs : List Nat} (hc : c ∉ cs) (limit : Nat) (L : List Nat) : occurrences (ml L) (ml (c :: cs)) 0 (ml L).length limit = (hitsL (c :: cs) 0 L).take limit := by
  rw [occ_eq, ml_len, Nat.sub_zero]
  have := occ_run hc limit L L [] (#[], 0) rfl (fun i _ => Nat.zero_le i)
  simpa using this
def joinL (sep : List Nat) : List (List Nat) -> List Nat
  | [] => []
  | [p] => p
  | p :: ps => p ++ sep ++ joinL sep ps
theorem join_ml (sep : List Nat) : ∀ ps : List (List Nat), PySem.Str.join (ml sep) (ps.map ml) = ml (joinL sep ps)
  | [] => rfl
  | [p] => rfl
  | p :: q :: ps => by
    show ml p ++ ml sep ++ PySem.Str.join (ml sep) ((q :: ps).map ml) = _
    rw [join_ml sep (q :: ps)]
    show (⟨p.toArray ++ sep.toArray ++ (joinL sep (q :: ps)).toArray⟩ : PySem.Str) = ⟨(p ++ sep ++ joinL sep (q :: ps)).toArray⟩
    simp
def cutsL (w : Nat) : Nat -> List (List Nat) -> List Nat
  | _, [] => []
  | _, [_] => []
  | k, p :: ps => (k + p.length) :: cutsL w (k + p.length + w) ps
theorem hits_join {c : Nat} {cs : List Nat} (hc : c ∉ cs) : ∀ (ps : List (List Nat)) (k : Nat), (∀ p ∈ ps, c ∉ p) -> hitsL (c :: cs) k (joinL (c :: cs) ps) = cutsL (c :: cs).length k ps
  | [], k, _ => rfl
  | [p], k, h => by
    have := hits_pass (c := c) (cs := cs) p [] k (h p (by simp))
    rw [List.append_nil] at this
    show hitsL (c :: cs) k p = []
    rw [this]; rfl
  | p :: q :: ps, k, h => by
    show hitsL (c :: cs) k (p ++ (c :: cs) ++ joinL (c :: cs) (q :: ps)) = (k + p.length) :: cutsL (c :: cs).length (k + p.length + (c :: cs).length) (q :: ps)
    rw [List.append_assoc, hits_pass p _ k (h p (by simp)), hits_word hc, hits_join hc (q :: ps) _ fun r hr => h r (List.mem_cons_of_mem _ hr)]
theorem sub_ml (pre p post : List Nat) : strSub (ml (pre ++ p ++ post)) pre.length (pre.length + p.length) = ml p := by
  apply ml_eq
  rw [strSub_toList, ml_list, List.append_assoc, List.drop_left]
  simp
theorem parts_join (sep : List Nat) : ∀ (ps : List (List Nat)) (pre : List Nat), ps ≠ [] -> partsFrom (ml (pre ++ joinL sep ps)) sep.length pre.length (cutsL sep.length pre.length ps) = ps.map ml
  | [], _, h => (h rfl).elim
  | [p], pre, _ => by
    show [strSub (ml (pre ++ p)) pre.length (ml (pre ++ p)).length] = [ml p]
    have := sub_ml pre p []
    rw [List.append_nil] at this
    rw [ml_len, List.length_append, this]
  | p :: q :: ps, pre, _ => by
    show strSub (ml (pre ++ (p ++ sep ++ joinL sep (q :: ps)))) pre.length (pre.length + p.length) :: partsFrom (ml (pre ++ (p ++ sep ++ joinL sep (q :: ps)))) sep.length (pre.length + p.length + sep.length) (cutsL sep.length (pre.length + p.length + sep.length) (q :: ps)) = ml p :: (q :: ps).map ml
    have e1 : pre ++ (p ++ sep ++ joinL sep (q :: ps)) = pre ++ p ++ (sep ++ joinL sep (q :: ps)) := by simp
    have e2 : pre ++ (p ++ sep ++ joinL sep (q :: ps)) = (pre ++ p ++ sep) ++ joinL sep (q :: ps) := by simp
    have el : (pre ++ p ++ sep).length = pre.length + p.length + sep.length := by simp only [List.length_append]
    have ih := parts_join sep (q :: ps) (pre ++ p ++ sep) (by simp)
    rw [el] at ih
    rw [<- e2] at ih
    rw [ih]
    congr 1
    rw [e1]; exact sub_ml pre p _
theorem kind_low (l : List Nat) (h : ∀ c ∈ l, c < 256) : strKind (ml l) = 1 := by
  unfold PySem.Builtin.Str.strKind
  rw [if_pos]
  rw [Array.all_eq_true']
  intro c hc
  have : c ∈ l := by simpa [ml] using hc
  simpa using h c this
theorem split_join {c : Nat} {cs : List Nat} (hc : c ∉ cs) (hl : ∀ d ∈ c :: cs, d < 256) {ps : List (List Nat)} (hne : ps ≠ []) (h : ∀ p ∈ ps, c ∉ p) : Txt.split (ml (joinL (c :: cs) ps)) (ml (c :: cs)) = ps.map ml := by
  have hk : ¬ strKind (ml (joinL (c :: cs) ps)) < strKind (ml (c :: cs)) := by
    rw [kind_low _ hl]
    unfold PySem.Builtin.Str.strKind
    split
    · omega
    · split <;> omega
  have hcut : ∀ (ps : List (List Nat)) (k : Nat), (cutsL (c :: cs).length k ps).length <= (joinL (c :: cs) ps).length := fun ps => by
    induction ps with
    | nil => intro k; simp [cutsL]
    | cons p ps ih =>
      intro k
      cases ps with
      | nil => simp [cutsL]
      | cons q ps =>
        have := ih (k + p.length + (c :: cs).length)
        show _ + 1 <= (p ++ (c :: cs) ++ joinL (c :: cs) (q :: ps)).length
        simp only [List.length_append, List.length_cons] at this ⊢
        omega
  have ho : occurrences (ml (joinL (c :: cs) ps)) (ml (c :: cs)) 0 (ml (joinL (c :: cs) ps)).length ((ml (joinL (c :: cs) ps)).length + 1) = cutsL (c :: cs).length 0 ps := by
    rw [occ_hits hc, hits_join hc ps 0 h, List.take_of_length_le]
    have := hcut ps 0
    rw [ml_len]; omega
  have hpj := parts_join (c :: cs) ps [] hne
  simp only [List.nil_append, List.length_nil] at hpj
  match ps, hne with
  | [p], _ =>
    unfold Txt.split
    have ho' := ho
    split
    · rfl
    · rw [ho, if_pos (by rfl)]; rfl
  | p :: q :: ps, _ =>
    unfold Txt.split
    have h1 : ¬ (decide ((ml (joinL (c :: cs) (p :: q :: ps))).length < (ml (c :: cs)).length) || decide (strKind (ml (joinL (c :: cs) (p :: q :: ps))) < strKind (ml (c :: cs)))) = true := by
      have : ¬ (ml (joinL (c :: cs) (p :: q :: ps))).length < (ml (c :: cs)).length := by
        rw [ml_len, ml_len]
        show ¬ (p ++ (c :: cs) ++ joinL (c :: cs) (q :: ps)).length < _
        simp only [List.length_append]; omega
      simp [this, hk]
    rw [if_neg h1, ho, if_neg (by simp [cutsL]), partsBetween_eq, ml_len]
    exact hpj
theorem part_first {c : Nat} (a b : List Nat) (h : c ∉ a) : Txt.partition (ml (a ++ [c] ++ b)) (ml [c]) = (ml a, ml [c], ml b) := by
  have ho := occ_hits (c := c) (cs := []) (by simp) 1 (a ++ [c] ++ b)
  rw [List.append_assoc, hits_pass a _ 0 h, show [c] ++ b = [c] ++ b from rfl, hits_word (by simp)] at ho
  rw [<- List.append_assoc] at ho
  unfold Txt.partition
  rw [ho]
  simp only [List.take_succ_cons, List.take_zero]
  have e1 := sub_ml [] a ([c] ++ b)
  have e2 := sub_ml (a ++ [c]) b []
  simp only [List.nil_append, List.length_nil, List.append_nil] at e1 e2
  rw [<- List.append_assoc] at e1
  rw [e1]
  congr 2
  have : (ml (a ++ [c] ++ b)).length = (a ++ [c]).length + b.length := by rw [ml_len, List.length_append]
  rw [this, ml_len]
  have el : 0 + a.length + [c].length = (a ++ [c]).length := by simp
  rw [el]; exact e2
end QX
namespace QX
def dg (m : Nat) : List Nat := (Nat.toDigits 10 m).map Char.toNat
theorem dchar : ∀ d : Nat, d < 10 -> (Nat.digitChar d).toNat = 48 + d := by decide
theorem dg_small {m : Nat} (h : m < 10) : dg m = [48 + m] := by
  unfold dg
  rw [Nat.toDigits_of_lt_base h]
  simp [dchar m h]
theorem dg_big {m : Nat} (h : 10 <= m) : dg m = dg (m / 10) ++ [48 + m % 10] := by
  have hm : m % 10 < 10 := Nat.mod_lt m (by decide)
  have t : Nat.toDigits 10 (m / 10) ++ Nat.toDigits 10 (m % 10) = Nat.toDigits 10 (10 * (m / 10) + m % 10) := Nat.toDigits_append_toDigits (by decide) (by omega) hm
  rw [Nat.div_add_mod] at t
  unfold dg
  rw [<- t, List.map_append, Nat.toDigits_of_lt_base hm]
  simp [dchar _ hm]
theorem dg_dig (m : Nat) : ∀ d ∈ dg m, 48 <= d /\ d <= 57 := by
  induction m using Nat.strongRecOn with
  | _ m ih =>
    intro d hd
    by_cases h : m < 10
    · rw [dg_small h] at hd
      have := List.mem_singleton.mp hd
      omega
    · rw [dg_big (by omega)] at hd
      rcases List.mem_append.mp hd with z | z
      · exact ih (m / 10) (by omega) d z
      · have := List.mem_singleton.mp z
        omega
theorem dg_ne (m : Nat) : dg m ≠ [] := by
  by_cases h : m < 10
  · rw [dg_small h]; simp
  · rw [dg_big (by omega)]; simp
theorem dg_len : ∀ (k m : Nat), m < 10 ^ (k + 1) -> (dg m).length <= k + 1
  | 0, m, h => by rw [dg_small (by simpa using h)]; simp
  | k + 1, m, h => by
    by_cases c : m < 10
    · rw [dg_small c]; simp
    · rw [dg_big (by omega)]
      have := dg_len k (m / 10) (by rw [Nat.pow_succ] at h; omega)
      simp; omega
theorem dg_zero : dg 0 = [48] := by rw [dg_small (by decide)]
end QX
namespace My
open PySem PySem.Spec L2 L3 L4 L6 Dv
open PyProof.Rows hiding St
def top (i : Nat) : Stmt := PySem.Challenge.pw_latestturn_k86_texts_refused.main.body.getD i (.Pass ⟨0, 0, 0, 0⟩)
abbrev s_is_name : Stmt := top 9
abbrev s_number_in : Stmt := top 13
abbrev s_name_in : Stmt := top 14
abbrev s_row_in : Stmt := top 15
abbrev s_rows_in : Stmt := top 16
abbrev s_ticket_in : Stmt := top 17
abbrev s_queue_in : Stmt := top 18
abbrev s_l_cell : Stmt := top 20
abbrev s_l_stir : Stmt := top 21
abbrev s_l_row : Stmt := top 22
abbrev s_l_names : Stmt := top 23
abbrev s_l_text : Stmt := top 24
abbrev s_l_spoilt : Stmt := top 25
abbrev s_l_figures : Stmt := top 26
abbrev s_l_name : Stmt := top 27
abbrev s_l_rows : Stmt := top 28
abbrev s_l_queue : Stmt := top 29
abbrev s_l_read : Stmt := top 30
abbrev s_l_right : Stmt := top 31
abbrev s_law : Stmt := top 32
def N_is_name : List Str := ["thing"]
def e_is_name_0 : EnvD -> Option D := (g2 (fIn false) (gr 0) (g2 fPlus (gc (.str "abcdefghijklmnopqrstuvwxyz")) (gc (.str "0123456789"))))
def g_is_name : SD := (sSeq (sIf (gOr (gNot (gt (gIs "str" (gr 0)))) (gNot (gb' (g3 fLe fLe (gc (.int 1)) (gB fLen (gCons' (gr 0) gNil)) (gc (.int 8)))))) (sRet (gc (.bl false))) sNext) (sRet (gAndV (g2 (fIn false) (g2 fItem (gr 0) (gc (.int 0))) (gc (.str "abcdefghijklmnopqrstuvwxyz"))) (gB fAll (gCons' (gFz (gComp ["sign"] [] (.name 0) tYes e_is_name_0 (gItS (gr 0)))) gNil)))))
def m_is_name : List En -> Option En := mir N_is_name (g_is_name)
def N_number_in : List Str := ["word"]
def e_number_in_0 : EnvD -> Option D := (g2 (fIn false) (gr 0) (gc (.str "0123456789")))
def g_number_in : SD := (sSeq (sIf (gOr (gNot (gb' (g3 fLe fLe (gc (.int 1)) (gB fLen (gCons' (gr 0) gNil)) (gc (.int 6))))) (gNot (gt (gB fAll (gCons' (gFz (gComp ["sign"] [] (.name 0) tYes e_number_in_0 (gItS (gr 0)))) gNil))))) sNever sNext) (sSeq (sIf (gAnd (gb' (g2 (fEq false) (g2 fItem (gr 0) (gc (.int 0))) (gc (.str "0")))) (gb' (g2 (fEq true) (gr 0) (gc (.str "0"))))) sNever sNext) (sRet (gB fIntT (gCons' (gr 0) gNil)))))
def m_number_in : List En -> Option En := mir N_number_in (g_number_in)
def xe_number_in_0 : EnvD -> Option D := (g2 (fIn false) (gr 0) (gc (.str "0123456789")))
def xe_number_in_1 : EnvD -> Option D := (g2 (fIn false) (gr 0) (gc (.str "0123456789")))
def gx_number_in : EnvD -> Option (EnvD × Xv) := (yAlt (yIf (gOr (gNot (gb' (g3 fLe fLe (gc (.int 1)) (gB fLen (gCons' (gr 0) gNil)) (gc (.int 6))))) (gNot (gt (gB fAll (gCons' (gFz (gComp ["sign"] [] (.name 0) tYes xe_number_in_0 (gItS (gr 0)))) gNil))))) (yRaise0 "NoLine" (gc (.str "a number is written with 1 to 6 figures"))) yNo) (ySeq (sIf (gOr (gNot (gb' (g3 fLe fLe (gc (.int 1)) (gB fLen (gCons' (gr 0) gNil)) (gc (.int 6))))) (gNot (gt (gB fAll (gCons' (gFz (gComp ["sign"] [] (.name 0) tYes xe_number_in_1 (gItS (gr 0)))) gNil))))) sNever sNext) (yIf (gAnd (gb' (g2 (fEq false) (g2 fItem (gr 0) (gc (.int 0))) (gc (.str "0")))) (gb' (g2 (fEq true) (gr 0) (gc (.str "0"))))) (yRaise0 "NoLine" (gc (.str "figures do not begin with 0, but for 0 itself"))) yNo)))
def mx_number_in : List En -> Option Xv := mirY N_number_in 1 gx_number_in
def N_name_in : List Str := ["word"]
def g_name_in : SD := (sSeq (sIf (gNot (gt (gCall (len? 1 m_is_name) frzO (nCons (gn 0) nNil)))) sNever sNext) (sRetV 0))
def m_name_in : List En -> Option En := mir N_name_in (g_name_in)
def gx_name_in : EnvD -> Option (EnvD × Xv) := (yIf (gNot (gt (gCall (len? 1 m_is_name) frzO (nCons (gn 0) nNil)))) (yRaise0 "NoLine" (gc (.str "a name is written with 1 to 8 small letters and figures, a letter first"))) yNo)
def mx_name_in : List En -> Option Xv := mirY N_name_in 1 gx_name_in
def N_row_in : List Str := ["text", "parts", "words"]
def e_row_in_0 : EnvD -> Option D := (gCall (len? 1 m_name_in) frzO (nCons (gn 0) nNil))
def g_row_in : SD := (sSeq (sSet 1 (gSM fPart (gr 0) (gCons' (gc (.str ":")) gNil))) (sSeq (sSet 2 (gFz (gSML fSplit (g2 fItem (gr 1) (gc (.int 2))) (gCons' (gc (.str " ")) gNil)))) (sSeq (sIf (gOr (gb' (g2 (fEq false) (g2 fItem (gr 1) (gc (.int 1))) (gc (.str "")))) (gb' (g2 (fEq true) (g2 fItem (gr 2) (gc (.int 0))) (gc (.str ""))))) sNever sNext) (sRet (gTup' (gCons' (gCall (len? 1 m_number_in) frzO (nCons (gVal (g2 fItem (gr 1) (gc (.int 0)))) nNil)) (gCons' (gFz (gComp ["word"] [] (.name 0) tYes e_row_in_0 (gIt (gFz (gSl (gr 2) (gSome (gc (.int 1))) gNone))))) gNil)))))))
def m_row_in : List En -> Option En := mir N_row_in (g_row_in)
def gx_row_in : EnvD -> Option (EnvD × Xv) := (ySeq (sSet 1 (gSM fPart (gr 0) (gCons' (gc (.str ":")) gNil))) (ySeq (sSet 2 (gFz (gSML fSplit (g2 fItem (gr 1) (gc (.int 2))) (gCons' (gc (.str " ")) gNil)))) (yAlt (yIf (gOr (gb' (g2 (fEq false) (g2 fItem (gr 1) (gc (.int 1))) (gc (.str "")))) (gb' (g2 (fEq true) (g2 fItem (gr 2) (gc (.int 0))) (gc (.str ""))))) (yRaise0 "NoLine" (gc (.str "a row is written as a turn, a colon, and a blank ahead of each name"))) yNo) (ySeq (sIf (gOr (gb' (g2 (fEq false) (g2 fItem (gr 1) (gc (.int 1))) (gc (.str "")))) (gb' (g2 (fEq true) (g2 fItem (gr 2) (gc (.int 0))) (gc (.str ""))))) sNever sNext) (yAlt (yE (yCall mx_number_in (nCons (gVal (g2 fItem (gr 1) (gc (.int 0)))) nNil))) (yE (yAft (gCall (len? 1 m_number_in) frzO (nCons (gVal (g2 fItem (gr 1) (gc (.int 0)))) nNil)) (yComp ["word"] [] (.name 0) tYes (gCall (len? 1 m_name_in) frzO (nCons (gn 0) nNil)) (yCall mx_name_in (nCons (gn 0) nNil)) (gIt (gFz (gSl (gr 2) (gSome (gc (.int 1))) gNone)))))))))))
def mx_row_in : List En -> Option Xv := mirY N_row_in 1 gx_row_in
def N_rows_in : List Str := ["text"]
def e_rows_in_0 : EnvD -> Option D := (gCall (len? 1 m_row_in) frzO (nCons (gn 0) nNil))
def g_rows_in : SD := (sSeq (sIf (gb' (g2 (fEq false) (gr 0) (gc (.str "-")))) (sRetA (gLst gNil)) sNext) (sRetA (gComp ["piece"] [] (.name 0) tYes e_rows_in_0 (gIt (gFz (gSML fSplit (gr 0) (gCons' (gc (.str "; ")) gNil)))))))
def m_rows_in : List En -> Option En := mir N_rows_in (g_rows_in)
def gx_rows_in : EnvD -> Option (EnvD × Xv) := (ySeq (sIf (gb' (g2 (fEq false) (gr 0) (gc (.str "-")))) (sRetA (gLst gNil)) sNext) (yE (yComp ["piece"] [] (.name 0) tYes (gCall (len? 1 m_row_in) frzO (nCons (gn 0) nNil)) (yCall mx_row_in (nCons (gn 0) nNil)) (gIt (gFz (gSML fSplit (gr 0) (gCons' (gc (.str "; ")) gNil)))))))
def mx_rows_in : List En -> Option Xv := mirY N_rows_in 1 gx_rows_in
def N_ticket_in : List Str := ["text", "parts"]
def g_ticket_in : SD := (sSeq (sSet 1 (gSM fPart (gr 0) (gCons' (gc (.str " ")) gNil))) (sRet (gTup' (gCons' (gCall (len? 1 m_name_in) frzO (nCons (gVal (g2 fItem (gr 1) (gc (.int 0)))) nNil)) (gCons' (gCall (len? 1 m_number_in) frzO (nCons (gVal (g2 fItem (gr 1) (gc (.int 2)))) nNil)) gNil)))))
def m_ticket_in : List En -> Option En := mir N_ticket_in (g_ticket_in)
def gx_ticket_in : EnvD -> Option (EnvD × Xv) := (ySeq (sSet 1 (gSM fPart (gr 0) (gCons' (gc (.str " ")) gNil))) (yAlt (yE (yCall mx_name_in (nCons (gVal (g2 fItem (gr 1) (gc (.int 0)))) nNil))) (yE (yAft (gCall (len? 1 m_name_in) frzO (nCons (gVal (g2 fItem (gr 1) (gc (.int 0)))) nNil)) (yCall mx_number_in (nCons (gVal (g2 fItem (gr 1) (gc (.int 2)))) nNil))))))
def mx_ticket_in : List En -> Option Xv := mirY N_ticket_in 1 gx_ticket_in
def N_queue_in : List Str := ["text"]
def e_queue_in_0 : EnvD -> Option D := (gCall (len? 1 m_ticket_in) frzO (nCons (gn 0) nNil))
def g_queue_in : SD := (sSeq (sIf (gb' (g2 (fEq false) (gr 0) (gc (.str "-")))) (sRetA (gLst gNil)) sNext) (sRetA (gComp ["piece"] [] (.name 0) tYes e_queue_in_0 (gIt (gFz (gSML fSplit (gr 0) (gCons' (gc (.str ", ")) gNil)))))))
def m_queue_in : List En -> Option En := mir N_queue_in (g_queue_in)
def gx_queue_in : EnvD -> Option (EnvD × Xv) := (ySeq (sIf (gb' (g2 (fEq false) (gr 0) (gc (.str "-")))) (sRetA (gLst gNil)) sNext) (yE (yComp ["piece"] [] (.name 0) tYes (gCall (len? 1 m_ticket_in) frzO (nCons (gn 0) nNil)) (yCall mx_ticket_in (nCons (gn 0) nNil)) (gIt (gFz (gSML fSplit (gr 0) (gCons' (gc (.str ", ")) gNil)))))))
def mx_queue_in : List En -> Option Xv := mirY N_queue_in 1 gx_queue_in
def N_l_cell : List Str := ["_law_script", "_law_k"]
def g_l_cell : SD := (sSeq (sIf (gb' (g2 fLt (gr 1) (gB fLen (gCons' (gr 0) gNil)))) (sRet (g2 fItem (gr 0) (gr 1))) sNext) (sRet (gc (.int 0))))
def m_l_cell : List En -> Option En := mir N_l_cell (g_l_cell)
def N_l_stir : List Str := ["_law_cell_here", "_law_k", "_law_number"]
def g_l_stir : SD := (sSeq (sSet 2 (g2 fMod (g2 fPlus (g2 fPlus (g2 fMul (g2 fMod (gr 0) (gc (.int 2147483647))) (gc (.int 48271))) (g2 fMul (gc (.int 69621)) (gr 1))) (gc (.int 7))) (gc (.int 2147483647)))) (sSeq (sSet 2 (g2 fMod (g2 fMul (gr 2) (gr 2)) (gc (.int 2147483629)))) (sRet (g2 fMod (g2 fPlus (g2 fPlus (g2 fMul (gr 2) (gr 2)) (g2 fMul (gc (.int 16807)) (gr 2))) (gc (.int 11))) (gc (.int 2147483587))))))
def m_l_stir : List En -> Option En := mir N_l_stir (g_l_stir)
def N_l_row : List Str := ["_law_script", "_law_at", "_law_base", "_law_count", "_law_cell_here", "_law_found", "_law_k"]
def b_l_row_0 : SD := (sSeq (sApp 5 (g2 fMod (gr 4) (gr 2))) (sSet 4 (g2 fDiv (gr 4) (gr 2))))
def e_l_row_1 : EnvD -> Option D := (g2 fMod (g2 fDiv (gCall (len? 2 m_l_stir) frzO (nCons (gn 2) (nCons (gn 0) nNil))) (gc (.int 8))) (gr 1))
def g_l_row : SD := (sSeq (sSet 4 (gCall (len? 2 m_l_cell) frzO (nCons (gn 0) (nCons (gn 1) nNil)))) (sSeq (sIf (gb' (g2 (fEq false) (g2 fAnd (g2 fShr (gCall (len? 2 m_l_cell) frzO (nCons (gn 0) (nCons (gVal (gc (.int 0))) nNil))) (g2 fMod (gr 1) (gc (.int 8)))) (gc (.int 1))) (gc (.int 1)))) (sRetA (gComp ["_law_k"] [("_law_base", 2), ("_law_cell_here", 4)] (.name 0) tYes e_l_row_1 (gR1 (gCons' (gr 3) gNil)))) sNext) (sSeq (sSetA 5 (gLst gNil)) (sSeq (sFor (.name 6) (gR1 (gCons' (gr 3) gNil)) b_l_row_0) (sRetV 5)))))
def m_l_row : List En -> Option En := mir N_l_row (g_l_row)
def N_l_names : List Str := ["_law_cell_here", "_law_many", "_law_letters", "_law_size", "_law_at", "_law_names_here", "_law_k", "_law_name_here", "_law_j", "_law_step"]
def b_l_names_0 : SD := (sSeq (sSet 9 (g2 fDiv (gr 0) (g2 fPlus (gc (.int 64)) (g2 fMul (gc (.int 5)) (gr 8))))) (sSeq (sIf (gb' (g2 (fEq false) (gr 8) (gr 4))) (sSet 9 (g2 fPlus (gr 9) (g2 fMod (gr 6) (gc (.int 26))))) sNext) (sSeq (sIf (gb' (g2 (fEq false) (gr 8) (g2 fMod (g2 fPlus (gr 4) (gc (.int 1))) (gr 3)))) (sSet 9 (g2 fPlus (gr 9) (g2 fDiv (gr 6) (gc (.int 26))))) sNext) (sIf (gb' (g2 (fEq false) (gr 8) (gc (.int 0)))) (sSet 7 (g2 fPlus (gr 7) (g2 fItem (gr 2) (g2 fMod (gr 9) (gc (.int 26)))))) (sSet 7 (g2 fPlus (gr 7) (g2 fItem (g2 fPlus (gr 2) (gc (.str "0123456789"))) (g2 fMod (gr 9) (gc (.int 36))))))))))
def b_l_names_1 : SD := (sSeq (sSet 7 (gc (.str ""))) (sSeq (sFor (.name 8) (gR1 (gCons' (gr 3) gNil)) b_l_names_0) (sApp 5 (gv 7))))
def g_l_names : SD := (sSeq (sSet 2 (gc (.str "abcdefghijklmnopqrstuvwxyz"))) (sSeq (sSet 3 (g2 fPlus (gc (.int 2)) (g2 fMod (gr 0) (gc (.int 7))))) (sSeq (sIf (gb' (g2 fLe (gr 1) (gc (.int 26)))) (sSet 3 (g2 fPlus (gc (.int 1)) (g2 fMod (gr 0) (gc (.int 8))))) sNext) (sSeq (sSet 4 (g2 fMod (g2 fDiv (gr 0) (gc (.int 8))) (gr 3))) (sSeq (sSetA 5 (gLst gNil)) (sSeq (sFor (.name 6) (gR1 (gCons' (gr 1) gNil)) b_l_names_1) (sRetV 5)))))))
def m_l_names : List En -> Option En := mir N_l_names (g_l_names)
def N_l_text : List Str := ["_law_script", "_law_names_here", "_law_many", "_law_texts", "_law_step", "_law_name_here", "_law_some"]
def b_l_text_0 : SD := (sSeq (sSet 5 (g2 fItem (gr 1) (g2 fMod (g2 fDiv (gr 4) (g2 fPow (gc (.int 10)) (gc (.int 6)))) (gB fLen (gCons' (gr 1) gNil))))) (sSeq (sSet 6 (gFz (g2 fRep (gFz (gLst (gCons' (gv 5) gNil))) (g2 fMod (g2 fDiv (gr 4) (g2 fPow (gc (.int 10)) (gc (.int 7)))) (gc (.int 3)))))) (sIf (gb' (g2 (fEq false) (g2 fMod (g2 fDiv (gCall (len? 2 m_l_cell) frzO (nCons (gn 0) (nCons (gVal (gc (.int 3))) nNil))) (gc (.int 5))) (gc (.int 2))) (gc (.int 0)))) (sApp 3 (gSM fJoin (gc (.str " ")) (gCons' (gFz (g2 fCatS (gFz (gLst (gCons' (g2 fPlus (gB fStr (gCons' (g2 fMod (gr 4) (g2 fPow (gc (.int 10)) (gc (.int 6)))) gNil)) (gc (.str ":"))) gNil))) (gr 6))) gNil))) (sApp 3 (g2 fPlus (g2 fPlus (gr 5) (gc (.str " "))) (gB fStr (gCons' (g2 fMod (gr 4) (g2 fPow (gc (.int 10)) (gc (.int 6)))) gNil)))))))
def g_l_text : SD := (sSeq (sSet 2 (g2 fMod (gCall (len? 2 m_l_cell) frzO (nCons (gn 0) (nCons (gVal (gc (.int 3))) nNil))) (gc (.int 5)))) (sSeq (sSetA 3 (gLst gNil)) (sSeq (sFor (.name 4) (gIt (gFz (gCall (len? 4 m_l_row) accO (nCons (gn 0) (nCons (gVal (gc (.int 4))) (nCons (gVal (g2 fPow (gc (.int 10)) (gc (.int 9)))) (nCons (gn 2) nNil))))))) b_l_text_0) (sSeq (sIf (gb' (g2 (fEq false) (gr 3) (gFz (gLst gNil)))) (sRet (gc (.str "-"))) sNext) (sRet (gSM fJoin (g2 fItem (gFz (gLst (gCons' (gc (.str "; ")) (gCons' (gc (.str ", ")) gNil)))) (g2 fMod (g2 fDiv (gCall (len? 2 m_l_cell) frzO (nCons (gn 0) (nCons (gVal (gc (.int 3))) nNil))) (gc (.int 5))) (gc (.int 2)))) (gCons' (gr 3) gNil)))))))
def m_l_text : List En -> Option En := mir N_l_text (g_l_text)
def N_l_spoilt : List Str := ["_law_text_here", "_law_cell_here", "_law_signs", "_law_way", "_law_sign", "_law_at", "_law_words", "_law_place", "_law_more"]
def g_l_spoilt : SD := (sSeq (sSet 2 (gFz (g2 fCatS (gFz (gB fListS (gCons' (gc (.str "0123456789abzA -;:,_.")) gNil))) (gFz (gLst (gCons' (gc (.str "\n")) (gCons' (gc (.str "\t")) gNil))))))) (sSeq (sSet 3 (g2 fMod (gr 1) (gc (.int 9)))) (sSeq (sSet 4 (g2 fItem (gr 2) (g2 fMod (g2 fDiv (gr 1) (gc (.int 9))) (gc (.int 23))))) (sSeq (sSet 5 (g2 fMod (g2 fDiv (gr 1) (gc (.int 207))) (g2 fPlus (gB fLen (gCons' (gr 0) gNil)) (gc (.int 1))))) (sSeq (sIf (gb' (g2 (fEq false) (gr 3) (gc (.int 0)))) (sRet (g2 fPlus (g2 fPlus (gSlS (gr 0) gNone (gSome (gr 5))) (gr 4)) (gSlS (gr 0) (gSome (gr 5)) gNone))) sNext) (sSeq (sIf (gb' (g2 (fEq false) (gr 3) (gc (.int 1)))) (sRet (g2 fPlus (gSlS (gr 0) gNone (gSome (gr 5))) (gSlS (gr 0) (gSome (g2 fPlus (gr 5) (gc (.int 1)))) gNone))) sNext) (sSeq (sIf (gb' (g2 (fEq false) (gr 3) (gc (.int 2)))) (sRet (g2 fPlus (g2 fPlus (gSlS (gr 0) gNone (gSome (gr 5))) (gr 4)) (gSlS (gr 0) (gSome (g2 fPlus (gr 5) (gc (.int 1)))) gNone))) sNext) (sSeq (sSetA 6 (gSML fSplit (gr 0) (gCons' (gc (.str " ")) gNil))) (sSeq (sSet 7 (g2 fMod (g2 fDiv (gr 1) (gc (.int 207))) (gB fLen (gCons' (gr 6) gNil)))) (sSeq (sIf (gb' (g2 (fEq false) (gr 3) (gc (.int 3)))) (sSeq (sSet 8 (g2 fItem (gFz (gLst (gCons' (gc (.str "-")) (gCons' (gc (.str "0")) (gCons' (gc (.str "a1")) (gCons' (gc (.str "00")) (gCons' (gc (.str "7:")) (gCons' (gc (.str "7")) gNil)))))))) (g2 fMod (g2 fDiv (gr 1) (gc (.int 9))) (gc (.int 6))))) (sSetA 6 (g2 fCatS (gFz (g2 fCatS (gFz (gSl (gr 6) gNone (gSome (gr 7)))) (gFz (gLst (gCons' (gv 8) gNil))))) (gFz (gSl (gr 6) (gSome (gr 7)) gNone))))) sNext) (sSeq (sIf (gb' (g2 (fEq false) (gr 3) (gc (.int 4)))) (sSetA 6 (g2 fCatS (gFz (g2 fCatS (gFz (gSl (gr 6) gNone (gSome (gr 7)))) (gFz (gSl (gr 6) (gSome (gr 7)) (gSome (g2 fPlus (gr 7) (gc (.int 1)))))))) (gFz (gSl (gr 6) (gSome (gr 7)) gNone)))) sNext) (sSeq (sIf (gb' (g2 (fEq false) (gr 3) (gc (.int 5)))) (sSetA 6 (g2 fCatS (gFz (gSl (gr 6) gNone (gSome (gr 7)))) (gFz (gSl (gr 6) (gSome (g2 fPlus (gr 7) (gc (.int 1)))) gNone)))) sNext) (sSeq (sIf (gb' (g2 (fEq false) (gr 3) (gc (.int 6)))) (sPut 6 (gv 7) (g2 fPlus (gB fStr (gCons' (g2 fSub (g2 fPow (gc (.int 10)) (gc (.int 6))) (g2 fMod (g2 fDiv (gr 1) (gc (.int 9))) (gc (.int 2)))) gNil)) (g2 fItem (gFz (gLst (gCons' (gc (.str "")) (gCons' (gc (.str ":")) (gCons' (gc (.str ",")) (gCons' (gc (.str ";")) gNil)))))) (g2 fMod (g2 fDiv (gr 1) (gc (.int 18))) (gc (.int 4)))))) sNext) (sRet (gSM fJoin (gc (.str " ")) (gCons' (gr 6) gNil))))))))))))))))
def m_l_spoilt : List En -> Option En := mir N_l_spoilt (g_l_spoilt)
def N_l_figures : List Str := ["_law_word", "_law_sign"]
def b_l_figures_0 : SD := (sIf (gb' (g2 (fIn true) (gr 1) (gc (.str "0123456789")))) (sRet (gc (.bl false))) sNext)
def g_l_figures : SD := (sSeq (sIf (gOr (gb' (g2 fLt (gB fLen (gCons' (gr 0) gNil)) (gc (.int 1)))) (gb' (g2 fGt (gB fLen (gCons' (gr 0) gNil)) (gc (.int 6))))) (sRet (gc (.bl false))) sNext) (sSeq (sFor (.name 1) (gItS (gr 0)) b_l_figures_0) (sRet (gOrV (g2 (fEq false) (gr 0) (gc (.str "0"))) (g2 (fEq true) (g2 fItem (gr 0) (gc (.int 0))) (gc (.str "0")))))))
def m_l_figures : List En -> Option En := mir N_l_figures (g_l_figures)
def N_l_name : List Str := ["_law_word", "_law_k", "_law_sign"]
def b_l_name_0 : SD := (sIf (gAnd (gb' (g2 (fIn true) (gr 2) (gc (.str "abcdefghijklmnopqrstuvwxyz")))) (gOr (gb' (g2 (fEq false) (gr 1) (gc (.int 0)))) (gb' (g2 (fIn true) (gr 2) (gc (.str "0123456789")))))) (sRet (gc (.bl false))) sNext)
def g_l_name : SD := (sSeq (sIf (gOr (gb' (g2 fLt (gB fLen (gCons' (gr 0) gNil)) (gc (.int 1)))) (gb' (g2 fGt (gB fLen (gCons' (gr 0) gNil)) (gc (.int 8))))) (sRet (gc (.bl false))) sNext) (sSeq (sFor (.tup [1, 2]) (gEnS (gCons' (gr 0) gNil)) b_l_name_0) (sRet (gc (.bl true)))))
def m_l_name : List En -> Option En := mir N_l_name (g_l_name)
def N_l_rows : List Str := ["_law_text_here", "_law_found", "_law_part", "_law_words"]
def e_l_rows_0 : EnvD -> Option D := (gv 0)
def b_l_rows_1 : SD := (sSeq (sSet 3 (gFz (gSML fSplit (gr 2) (gCons' (gc (.str " ")) gNil)))) (sSeq (sIf (gOr (gb' (g2 (fEq true) (gSlS (g2 fItem (gr 3) (gc (.int 0))) (gSome (gNeg (gc (.int 1)))) gNone) (gc (.str ":")))) (gNot (gt (gCall (len? 1 m_l_figures) frzO (nCons (gVal (gSlS (g2 fItem (gr 3) (gc (.int 0))) gNone (gSome (gNeg (gc (.int 1)))))) nNil))))) (sRet (gc .non)) sNext) (sSeq (sIf (gb' (g2 fGt (gB fLen (gCons' (gFz (gComp ["_law_word"] [] (.name 0) (gNot (gt (gCall (len? 1 m_l_name) frzO (nCons (gn 0) nNil)))) e_l_rows_0 (gIt (gFz (gSl (gr 3) (gSome (gc (.int 1))) gNone))))) gNil)) (gc (.int 0)))) (sRet (gc .non)) sNext) (sApp 1 (gTup' (gCons' (gB fIntT (gCons' (gSlS (g2 fItem (gr 3) (gc (.int 0))) gNone (gSome (gNeg (gc (.int 1))))) gNil)) (gCons' (gFz (gSl (gr 3) (gSome (gc (.int 1))) gNone)) gNil)))))))
def g_l_rows : SD := (sSeq (sSetA 1 (gLst gNil)) (sSeq (sIf (gb' (g2 (fEq false) (gr 0) (gc (.str "-")))) (sRetV 1) sNext) (sSeq (sFor (.name 2) (gIt (gFz (gSML fSplit (gr 0) (gCons' (gc (.str "; ")) gNil)))) b_l_rows_1) (sRetV 1))))
def m_l_rows : List En -> Option En := mir N_l_rows (g_l_rows)
def N_l_queue : List Str := ["_law_text_here", "_law_found", "_law_part", "_law_words"]
def b_l_queue_0 : SD := (sSeq (sSet 3 (gFz (gSML fSplit (gr 2) (gCons' (gc (.str " ")) gNil)))) (sSeq (sIf (gOr (gb' (g2 (fEq true) (gB fLen (gCons' (gr 3) gNil)) (gc (.int 2)))) (gOr (gNot (gt (gCall (len? 1 m_l_name) frzO (nCons (gVal (g2 fItem (gr 3) (gc (.int 0)))) nNil)))) (gNot (gt (gCall (len? 1 m_l_figures) frzO (nCons (gVal (g2 fItem (gr 3) (gc (.int 1)))) nNil)))))) (sRet (gc .non)) sNext) (sApp 1 (gTup' (gCons' (g2 fItem (gr 3) (gc (.int 0))) (gCons' (gB fIntT (gCons' (g2 fItem (gr 3) (gc (.int 1))) gNil)) gNil))))))
def g_l_queue : SD := (sSeq (sSetA 1 (gLst gNil)) (sSeq (sIf (gb' (g2 (fEq false) (gr 0) (gc (.str "-")))) (sRetV 1) sNext) (sSeq (sFor (.name 2) (gIt (gFz (gSML fSplit (gr 0) (gCons' (gc (.str ", ")) gNil)))) b_l_queue_0) (sRetV 1))))
def m_l_queue : List En -> Option En := mir N_l_queue (g_l_queue)
def N_l_read : List Str := ["_law_text_here", "_law_which", "_law_found", "_law_kinds", "e"]
def g_l_read : SD := (sSeq (sSet 2 (gc .non)) (sSeq (sSet 3 (gc .non)) (sSeq (sTryL 3 4 "NoLine" [.isx true, .isx false, .isx false] (sIf (gb' (g2 (fEq false) (gr 1) (gc (.int 0)))) (sSet 2 (gFz (gCall (len? 1 m_rows_in) accO (nCons (gn 0) nNil)))) (sIf (gb' (g2 (fEq false) (gr 1) (gc (.int 1)))) (sSet 2 (gFz (gCall (len? 1 m_queue_in) accO (nCons (gn 0) nNil)))) (sSet 2 (gCall (len? 1 m_number_in) frzO (nCons (gn 0) nNil))))) (yIf (gb' (g2 (fEq false) (gr 1) (gc (.int 0)))) (yE (yCall mx_rows_in (nCons (gn 0) nNil))) (yIf (gb' (g2 (fEq false) (gr 1) (gc (.int 1)))) (yE (yCall mx_queue_in (nCons (gn 0) nNil))) (yE (yCall mx_number_in (nCons (gn 0) nNil)))))) (sSeq (sIf (gb' (g2 (fIs false) (gr 3) (gc .non))) (sRetV 2) sNext) (sRetV 3)))))
def m_l_read : List En -> Option En := mir N_l_read (g_l_read)
def N_l_right : List Str := ["_law_text_here", "_law_dues", "_law_which", "_law_due", "_law_word"]
def b_l_right_0 : SD := (sSeq (sSet 3 (gFz (gLst (gCons' (gc (.bl true)) (gCons' (gc (.bl false)) (gCons' (gc (.bl false)) gNil)))))) (sSeq (sIf (gt (gCall (len? 1 m_l_figures) frzO (nCons (gn 4) nNil))) (sSet 3 (gB fIntT (gCons' (gr 4) gNil))) sNext) (sIf (gb' (g2 (fEq true) (gCall (len? 2 m_l_read) frzO (nCons (gn 4) (nCons (gVal (gc (.int 2))) nNil))) (gr 3))) (sRet (gc (.bl false))) sNext)))
def b_l_right_1 : SD := (sSeq (sSet 3 (g2 fItem (gr 1) (gr 2))) (sSeq (sIf (gb' (g2 (fIs false) (gr 3) (gc .non))) (sSet 3 (gFz (gLst (gCons' (gc (.bl true)) (gCons' (gc (.bl false)) (gCons' (gc (.bl false)) gNil)))))) sNext) (sIf (gb' (g2 (fEq true) (gCall (len? 2 m_l_read) frzO (nCons (gn 0) (nCons (gn 2) nNil))) (gr 3))) (sRet (gc (.bl false))) sNext)))
def g_l_right : SD := (sSeq (sSet 1 (gFz (gLst (gCons' (gCall (len? 1 m_l_rows) frzO (nCons (gn 0) nNil)) (gCons' (gCall (len? 1 m_l_queue) frzO (nCons (gn 0) nNil)) gNil))))) (sSeq (sFor (.name 2) (gR1 (gCons' (gc (.int 2)) gNil)) b_l_right_1) (sSeq (sFor (.name 4) (gIt (gFz (gSML fSplit (gr 0) (gCons' (gc (.str " ")) gNil)))) b_l_right_0) (sRet (gc (.bl true))))))
def m_l_right : List En -> Option En := mir N_l_right (g_l_right)
def N_law : List Str := ["_law_script", "_law_names_here", "_law_text_here", "_law_k"]
def b_law_0 : SD := (sIf (gNot (gt (gCall (len? 1 m_l_right) frzO (nCons (gVal (gCall (len? 2 m_l_spoilt) frzO (nCons (gn 2) (nCons (gVal (gCall (len? 2 m_l_cell) frzO (nCons (gn 0) (nCons (gn 3) nNil)))) nNil)))) nNil)))) (sRet (gc (.bl false))) sNext)
def g_law : SD := (sSeq (sSet 1 (gFz (gCall (len? 2 m_l_names) accO (nCons (gVal (gCall (len? 2 m_l_cell) frzO (nCons (gn 0) (nCons (gVal (gc (.int 1))) nNil)))) (nCons (gVal (g2 fPlus (gc (.int 1)) (g2 fMod (gCall (len? 2 m_l_cell) frzO (nCons (gn 0) (nCons (gVal (gc (.int 2))) nNil))) (gc (.int 4))))) nNil))))) (sSeq (sSet 2 (gCall (len? 2 m_l_text) frzO (nCons (gn 0) (nCons (gn 1) nNil)))) (sSeq (sIf (gOr (gNot (gt (gCall (len? 1 m_l_right) frzO (nCons (gn 2) nNil)))) (gOr (gNot (gt (gCall (len? 1 m_l_right) frzO (nCons (gVal (gc (.str ""))) nNil)))) (gNot (gt (gCall (len? 1 m_l_right) frzO (nCons (gVal (gc (.str "00 007"))) nNil)))))) (sRet (gc (.bl false))) sNext) (sSeq (sFor (.name 3) (gR2 (gCons' (gc (.int 5)) (gCons' (gB fMax (gCons' (gc (.int 8)) (gCons' (gB fMin (gCons' (gB fLen (gCons' (gr 0) gNil)) (gCons' (gc (.int 45)) gNil))) gNil))) gNil))) b_law_0) (sRet (gc (.bl true)))))))
def m_law : List En -> Option En := mir N_law (g_law)
structure Txt (K : PySem.W.Frag) (mg : Str -> Option Value) (C : Addr) : Prop where
  b_all : mg "all" = none
  b_enumerate : mg "enumerate" = none
  b_int : mg "int" = none
  b_isinstance : mg "isinstance" = none
  b_len : mg "len" = none
  b_list : mg "list" = none
  b_max : mg "max" = none
  b_min : mg "min" = none
  b_range : mg "range" = none
  b_str : mg "str" = none
  c_FIGURES' : ∃ t, mg "FIGURES" = some (.str "0123456789" t)
  c_LETTERS' : ∃ t, mg "LETTERS" = some (.str "abcdefghijklmnopqrstuvwxyz" t)
  c_MOST_FIGURES' : ∃ t, mg "MOST_FIGURES" = some (.int 6 t)
  c_MOST_SIGNS' : ∃ t, mg "MOST_SIGNS" = some (.int 8 t)
  c_NOTHING' : ∃ t, mg "NOTHING" = some (.str "-" t)
section
variable {P : Program} {w : World} {K : PySem.W.Frag} {mg : Str -> Option Value} {base : Heap} {C : Addr}
theorem sc_is_name : FnScope ["thing"] ["thing"] (defScope s_is_name) := ⟨rfl, rfl, rfl, by decide +kernel, rfl, by decide +kernel, by decide +kernel⟩
theorem ok_is_name {f : Addr} {fd : FuncData} (T : Txt K mg C) (F : Fun K "is_name" "is_name" s_is_name f fd) : FnOk P w K mg base CX0 1 f fd ["thing"] (pSp ⟨K, w⟩ 1 (len? 1 (mir ["thing"] g_is_name))) := by
  obtain ⟨tok_FIGURES, t_FIGURES⟩ := T.c_FIGURES'
  obtain ⟨tok_LETTERS, t_LETTERS⟩ := T.c_LETTERS'
  obtain ⟨tok_MOST_SIGNS, t_MOST_SIGNS⟩ := T.c_MOST_SIGNS'
  have sc := sc_is_name
  refine fn_pure (k := 0) F sc_is_name (fun cdv A outer s H E B hr => ?_)
  exact (dss_cons (ds_if (dt_w (dw_or (dt_not (dt_truth (DE.read (de_isinst (kitT "str" (by decide)) (by rfl) T.b_isinstance (by rfl) T.b_str (by decide +kernel) (dr_var 0 (pv 0)))) (by intro _; rfl))) (dw_or1 (dt_not (dt_chain op_le op_le ok_le ok_le de_int.read (DE.read (de_len (by rfl) T.b_len (drs_cons (dr_var 0 (pv 0)) drs_nil))) (DE.read (de_glob (v := .int 8) (by rfl) t_MOST_SIGNS (by exact ⟨_, rfl⟩) (by intro _; rfl)))))))) (dss_one (ds_ret de_bl)) dss_nil) (dss_one (ds_ret (de_andv (de_cmp op_inA ok_in (DE.read (de_item2 (dr_var 0 (pv 0)) de_int.read (by intro _ _; rfl))) (DE.read (de_glob (v := .str "abcdefghijklmnopqrstuvwxyz") (by rfl) t_LETTERS (by exact ⟨_, rfl⟩) (by intro _; rfl))) (by rfl)) (de_one (de_all (by rfl) (by rfl) T.b_all (drs_cons (DA.read (da_comp (own := ["sign"]) (cap := []) (t := (.name 0)) (by rfl) (comp_scope (sc := (defScope s_is_name).names) (N := ["thing"]) (by rfl) (by rfl) (by rfl) (by decide +kernel)) (di_str (dr_var 0 (pv 0))) (by decide) (fun B' C' s₀ H₀ fp pn => ⟨(pg_name (i := 0) (show List.Nodup (["sign"] : List Str) from by decide +kernel) (by rfl) (by first|exact .inl rfl|exact .inr rfl)), difs_nil, (de_cmp op_inA ok_in (dr_var 0 (pv 0)) (DE.read (de_plus (DE.read (de_glob (v := .str "abcdefghijklmnopqrstuvwxyz") (by rfl) t_LETTERS (by exact ⟨_, rfl⟩) (by intro _; rfl))) (DE.read (de_glob (v := .str "0123456789") (by rfl) t_FIGURES (by exact ⟨_, rfl⟩) (by intro _; rfl))))) (by rfl))⟩))) drs_nil)))))))
theorem sc_number_in : FnScope ["word"] ["word"] (defScope s_number_in) := ⟨rfl, rfl, rfl, by decide +kernel, rfl, by decide +kernel, by decide +kernel⟩
theorem ok_number_in {f : Addr} {fd : FuncData} (T : Txt K mg C) (F : Fun K "number_in" "number_in" s_number_in f fd) : FnOk P w K mg base CX0 1 f fd ["word"] (pSp ⟨K, w⟩ 1 (len? 1 (mir ["word"] g_number_in))) := by
  obtain ⟨tok_FIGURES, t_FIGURES⟩ := T.c_FIGURES'
  obtain ⟨tok_MOST_FIGURES, t_MOST_FIGURES⟩ := T.c_MOST_FIGURES'
  have sc := sc_number_in
  refine fn_pure (k := 0) F sc_number_in (fun cdv A outer s H E B hr => ?_)
  exact (dss_cons (ds_if (dt_w (dw_or (dt_not (dt_chain op_le op_le ok_le ok_le de_int.read (DE.read (de_len (by rfl) T.b_len (drs_cons (dr_var 0 (pv 0)) drs_nil))) (DE.read (de_glob (v := .int 6) (by rfl) t_MOST_FIGURES (by exact ⟨_, rfl⟩) (by intro _; rfl))))) (dw_or1 (dt_not (dt_truth (DE.read (de_all (by rfl) (by rfl) T.b_all (drs_cons (DA.read (da_comp (own := ["sign"]) (cap := []) (t := (.name 0)) (by rfl) (comp_scope (sc := (defScope s_number_in).names) (N := ["word"]) (by rfl) (by rfl) (by rfl) (by decide +kernel)) (di_str (dr_var 0 (pv 0))) (by decide) (fun B' C' s₀ H₀ fp pn => ⟨(pg_name (i := 0) (show List.Nodup (["sign"] : List Str) from by decide +kernel) (by rfl) (by first|exact .inl rfl|exact .inr rfl)), difs_nil, (de_cmp op_inA ok_in (dr_var 0 (pv 0)) (DE.read (de_glob (v := .str "0123456789") (by rfl) t_FIGURES (by exact ⟨_, rfl⟩) (by intro _; rfl))) (by rfl))⟩))) drs_nil))) (by intro _; rfl)))))) (dss_one ds_never) dss_nil) (dss_cons (ds_if (dt_w (dw_and (dt_cmp (op_eqD hr.units) ok_eq (DE.read (de_item2 (dr_var 0 (pv 0)) de_int.read (by intro _ _; rfl))) (DE.read de_str) (nomark _)) (dw_and1 (dt_cmp (op_neD hr.units) ok_eq (dr_var 0 (pv 0)) (DE.read de_str) (nomark _))))) (dss_one ds_never) dss_nil) (dss_one (ds_ret (de_intT (by rfl) T.b_int (drs_cons (dr_var 0 (pv 0)) drs_nil))))))
theorem okx_number_in {f : Addr} {fd : FuncData} (T : Txt K mg C) (F : Fun K "number_in" "number_in" s_number_in f fd) {CT HE : Addr} (U : Exc0 K mg CT HE "NoLine" "HallError" [("NoName", false), ("NoNumber", false)]) : FnOk P w K mg base (CX1 P w) 3 f fd ["word"] (ySp ⟨K, w⟩ (fun _ => CT) "-" 1 (mirY ["word"] 1 gx_number_in)) := by
  obtain ⟨tok_FIGURES, t_FIGURES⟩ := T.c_FIGURES'
  obtain ⟨tok_MOST_FIGURES, t_MOST_FIGURES⟩ := T.c_MOST_FIGURES'
  have sc := sc_number_in
  refine fn_raiseY (k := 2) F sc_number_in (fun cdv A outer s H E B pn hr => ?_)
  exact (dvs_alt (dvs_if (dt_w (dw_or (dt_not (dt_chain op_le op_le ok_le ok_le de_int.read (DE.read (de_len (by rfl) T.b_len (drs_cons (dr_var 0 (pv 0)) drs_nil))) (DE.read (de_glob (v := .int 6) (by rfl) t_MOST_FIGURES (by exact ⟨_, rfl⟩) (by intro _; rfl))))) (dw_or1 (dt_not (dt_truth (DE.read (de_all (by rfl) (by rfl) T.b_all (drs_cons (DA.read (da_comp (own := ["sign"]) (cap := []) (t := (.name 0)) (by rfl) (comp_scope (sc := (defScope s_number_in).names) (N := ["word"]) (by rfl) (by rfl) (by rfl) (by decide +kernel)) (di_str (dr_var 0 (pv 0))) (by decide) (fun B' C' s₀ H₀ fp pn => ⟨(pg_name (i := 0) (show List.Nodup (["sign"] : List Str) from by decide +kernel) (by rfl) (by first|exact .inl rfl|exact .inr rfl)), difs_nil, (de_cmp op_inA ok_in (dr_var 0 (pv 0)) (DE.read (de_glob (v := .str "0123456789") (by rfl) t_FIGURES (by exact ⟨_, rfl⟩) (by intro _; rfl))) (by rfl))⟩))) drs_nil))) (by intro _; rfl)))))) (dvs_raise0 (nm := "NoLine") rfl rfl U.xc (by rfl) U.mT de_str) dvs_no) (dvs_seq (ds_if (dt_w (dw_or (dt_not (dt_chain op_le op_le ok_le ok_le de_int.read (DE.read (de_len (by rfl) T.b_len (drs_cons (dr_var 0 (pv 0)) drs_nil))) (DE.read (de_glob (v := .int 6) (by rfl) t_MOST_FIGURES (by exact ⟨_, rfl⟩) (by intro _; rfl))))) (dw_or1 (dt_not (dt_truth (DE.read (de_all (by rfl) (by rfl) T.b_all (drs_cons (DA.read (da_comp (own := ["sign"]) (cap := []) (t := (.name 0)) (by rfl) (comp_scope (sc := (defScope s_number_in).names) (N := ["word"]) (by rfl) (by rfl) (by rfl) (by decide +kernel)) (di_str (dr_var 0 (pv 0))) (by decide) (fun B' C' s₀ H₀ fp pn => ⟨(pg_name (i := 0) (show List.Nodup (["sign"] : List Str) from by decide +kernel) (by rfl) (by first|exact .inl rfl|exact .inr rfl)), difs_nil, (de_cmp op_inA ok_in (dr_var 0 (pv 0)) (DE.read (de_glob (v := .str "0123456789") (by rfl) t_FIGURES (by exact ⟨_, rfl⟩) (by intro _; rfl))) (by rfl))⟩))) drs_nil))) (by intro _; rfl)))))) (dss_one ds_never) dss_nil) (dvs_if (dt_w (dw_and (dt_cmp (op_eqD hr.units) ok_eq (DE.read (de_item2 (dr_var 0 (pv 0)) de_int.read (by intro _ _; rfl))) (DE.read de_str) (nomark _)) (dw_and1 (dt_cmp (op_neD hr.units) ok_eq (dr_var 0 (pv 0)) (DE.read de_str) (nomark _))))) (dvs_raise0 (nm := "NoLine") rfl rfl U.xc (by rfl) U.mT de_str) dvs_no)))
theorem sc_name_in : FnScope ["word"] ["word"] (defScope s_name_in) := ⟨rfl, rfl, rfl, by decide +kernel, rfl, by decide +kernel, by decide +kernel⟩
theorem ok_name_in {f : Addr} {fd : FuncData} (T : Txt K mg C) (F : Fun K "name_in" "name_in" s_name_in f fd) (h_is_name : Fx P w K mg base "is_name" 1 1 m_is_name) : FnOk P w K mg base CX0 2 f fd ["word"] (pSp ⟨K, w⟩ 1 (len? 1 (mir ["word"] g_name_in))) := by
  have sc := sc_name_in
  refine fn_pure (k := 1) F sc_name_in (fun cdv A outer s H E B hr => ?_)
  exact (dss_cons (ds_if (dt_not (dt_truth (DE.read (de_callF h_is_name (hr.mono (by decide)) (by rfl) (dns_cons (dn_var 0 (pv 0)) dns_nil))) (by intro _; rfl))) (dss_one ds_never) dss_nil) (dss_one (ds_retV 0 (pv 0))))
theorem okx_name_in {f : Addr} {fd : FuncData} (T : Txt K mg C) (F : Fun K "name_in" "name_in" s_name_in f fd) {CT HE : Addr} (U : Exc0 K mg CT HE "NoLine" "HallError" [("NoName", false), ("NoNumber", false)]) (h_is_name : Fx P w K mg base "is_name" 1 1 m_is_name) : FnOk P w K mg base (CX1 P w) 3 f fd ["word"] (ySp ⟨K, w⟩ (fun _ => CT) "-" 1 (mirY ["word"] 1 gx_name_in)) := by
  have sc := sc_name_in
  refine fn_raiseY (k := 2) F sc_name_in (fun cdv A outer s H E B pn hr => ?_)
  exact (dvs_if (dt_not (dt_truth (DE.read (de_callF h_is_name (hr.mono (by decide)) (by rfl) (dns_cons (dn_var 0 (pv 0)) dns_nil))) (by intro _; rfl))) (dvs_raise0 (nm := "NoLine") rfl rfl U.xc (by rfl) U.mT de_str) dvs_no)
theorem sc_row_in : FnScope ["text", "parts", "words"] ["text"] (defScope s_row_in) := ⟨rfl, rfl, rfl, by decide +kernel, rfl, by decide +kernel, by decide +kernel⟩
theorem ok_row_in {f : Addr} {fd : FuncData} (T : Txt K mg C) (F : Fun K "row_in" "row_in" s_row_in f fd) (h_name_in : Fx P w K mg base "name_in" 2 1 m_name_in) (h_number_in : Fx P w K mg base "number_in" 1 1 m_number_in) : FnOk P w K mg base CX0 3 f fd ["text"] (pSp ⟨K, w⟩ 1 (len? 1 (mir ["text", "parts", "words"] g_row_in))) := by
  have sc := sc_row_in
  refine fn_pure (k := 2) F sc_row_in (fun cdv A outer s H E B hr => ?_)
  exact (dss_cons (ds_set (i := 1) sc.nd (by rfl) (by first|exact .inl rfl|exact .inr rfl) (de_part (dr_var 0 (pv 0)) (drs_cons (DE.read de_str) drs_nil))) (dss_cons (ds_set (i := 2) sc.nd (by rfl) (by first|exact .inl rfl|exact .inr rfl) (DA.frz (da_split (DE.read (de_item2 (dr_var 1 (pv 1)) de_int.read (by intro _ _; rfl))) (drs_cons (DE.read de_str) drs_nil)))) (dss_cons (ds_if (dt_w (dw_or (dt_cmp (op_eqD hr.units) ok_eq (DE.read (de_item2 (dr_var 1 (pv 1)) de_int.read (by intro _ _; rfl))) (DE.read de_str) (nomark _)) (dw_or1 (dt_cmp (op_neD hr.units) ok_eq (DE.read (de_item2 (dr_var 2 (pv 2)) de_int.read (by intro _ _; rfl))) (DE.read de_str) (nomark _))))) (dss_one ds_never) dss_nil) (dss_one (ds_ret (de_tup (das_cons (de_callF h_number_in (hr.mono (by decide)) (by rfl) (dns_cons (dn_val (de_item2 (dr_var 1 (pv 1)) de_int.read (by intro _ _; rfl))) dns_nil)) (das_cons (DA.frz (da_comp (own := ["word"]) (cap := []) (t := (.name 0)) (by rfl) (comp_scope (sc := (defScope s_row_in).names) (N := ["text", "parts", "words"]) (by rfl) (by rfl) (by rfl) (by decide +kernel)) (di_list hb1 (DR.cur (DA.read (da_slice (dr_var 2 (pv 2)) (do_some de_int.read) do_none)))) (by decide) (fun B' C' s₀ H₀ fp pn => ⟨(pg_name (i := 0) (show List.Nodup (["word"] : List Str) from by decide +kernel) (by rfl) (by first|exact .inl rfl|exact .inr rfl)), difs_nil, (de_callF h_name_in (hr.mono (by decide)) (by rfl) (dns_cons (dn_var 0 (pv 0)) dns_nil))⟩))) das_nil))))))))
theorem okx_row_in {f : Addr} {fd : FuncData} (T : Txt K mg C) (F : Fun K "row_in" "row_in" s_row_in f fd) {CT HE : Addr} (U : Exc0 K mg CT HE "NoLine" "HallError" [("NoName", false), ("NoNumber", false)]) (h_name_in : Fx P w K mg base "name_in" 2 1 m_name_in) (h_number_in : Fx P w K mg base "number_in" 1 1 m_number_in) (hx_number_in : Ry P w K mg base (fun _ => CT) "-" "number_in" 3 1 mx_number_in) (hx_name_in : Ry P w K mg base (fun _ => CT) "-" "name_in" 3 1 mx_name_in) : FnOk P w K mg base (CX1 P w) 4 f fd ["text"] (ySp ⟨K, w⟩ (fun _ => CT) "-" 1 (mirY ["text", "parts", "words"] 1 gx_row_in)) := by
  have sc := sc_row_in
  refine fn_raiseY (k := 3) F sc_row_in (fun cdv A outer s H E B pn hr => ?_)
  exact (dvs_seq (ds_set (i := 1) sc.nd (by rfl) (by first|exact .inl rfl|exact .inr rfl) (de_part (dr_var 0 (pv 0)) (drs_cons (DE.read de_str) drs_nil))) (dvs_seq (ds_set (i := 2) sc.nd (by rfl) (by first|exact .inl rfl|exact .inr rfl) (DA.frz (da_split (DE.read (de_item2 (dr_var 1 (pv 1)) de_int.read (by intro _ _; rfl))) (drs_cons (DE.read de_str) drs_nil)))) (dvs_alt (dvs_if (dt_w (dw_or (dt_cmp (op_eqD hr.units) ok_eq (DE.read (de_item2 (dr_var 1 (pv 1)) de_int.read (by intro _ _; rfl))) (DE.read de_str) (nomark _)) (dw_or1 (dt_cmp (op_neD hr.units) ok_eq (DE.read (de_item2 (dr_var 2 (pv 2)) de_int.read (by intro _ _; rfl))) (DE.read de_str) (nomark _))))) (dvs_raise0 (nm := "NoLine") rfl rfl U.xc (by rfl) U.mT de_str) dvs_no) (dvs_seq (ds_if (dt_w (dw_or (dt_cmp (op_eqD hr.units) ok_eq (DE.read (de_item2 (dr_var 1 (pv 1)) de_int.read (by intro _ _; rfl))) (DE.read de_str) (nomark _)) (dw_or1 (dt_cmp (op_neD hr.units) ok_eq (DE.read (de_item2 (dr_var 2 (pv 2)) de_int.read (by intro _ _; rfl))) (DE.read de_str) (nomark _))))) (dss_one ds_never) dss_nil) (dvs_alt (dvs_ret (dv_tuple (dva_here (dv_call pass_WX hx_number_in mirY_len (hr.mono (by decide)) (by rfl) (dns_cons (dn_val (de_item2 (dr_var 1 (pv 1)) de_int.read (by intro _ _; rfl))) dns_nil))))) (dvs_ret (dv_tuple (dva_next (de_callF h_number_in (hr.mono (by decide)) (by rfl) (dns_cons (dn_val (de_item2 (dr_var 1 (pv 1)) de_int.read (by intro _ _; rfl))) dns_nil)) (dva_here (dv_compE (own := ["word"]) (cap := []) (t := (.name 0)) (by rfl) (comp_scope (sc := (defScope s_row_in).names) (N := ["text", "parts", "words"]) (by rfl) (by rfl) (by rfl) (by decide +kernel)) (di_list hb1 (DR.cur (DA.read (da_slice (dr_var 2 (pv 2)) (do_some de_int.read) do_none)))) (by decide) ⟨rfl, rfl⟩ exit_Z (fun B' C' s₀ H₀ fp pn => ⟨(pg_name (i := 0) (show List.Nodup (["word"] : List Str) from by decide +kernel) (by rfl) (by first|exact .inl rfl|exact .inr rfl)), difs_nil⟩) (fun B' C' s₀ H₀ fp pn pc E' => (de_callF h_name_in (hr.mono (by decide)) (by rfl) (dns_cons (dn_var 0 (pv 0)) dns_nil))) (fun B' C' s₀ H₀ fp pn pc E' => (dv_call pass_WX hx_name_in mirY_len (hr.mono (by decide)) (by rfl) (dns_cons (dn_var 0 (pv 0)) dns_nil)))))))))))))
theorem sc_rows_in : FnScope ["text"] ["text"] (defScope s_rows_in) := ⟨rfl, rfl, rfl, by decide +kernel, rfl, by decide +kernel, by decide +kernel⟩
theorem ok_rows_in {f : Addr} {fd : FuncData} (T : Txt K mg C) (F : Fun K "rows_in" "rows_in" s_rows_in f fd) (h_row_in : Fx P w K mg base "row_in" 3 1 m_row_in) : FnOk P w K mg base CX0 4 f fd ["text"] (pSp ⟨K, w⟩ 1 (len? 1 (mir ["text"] g_rows_in))) := by
  obtain ⟨tok_NOTHING, t_NOTHING⟩ := T.c_NOTHING'
  have sc := sc_rows_in
  refine fn_pure (k := 3) F sc_rows_in (fun cdv A outer s H E B hr => ?_)
  exact (dss_cons (ds_if (dt_cmp (op_eqD hr.units) ok_eq (dr_var 0 (pv 0)) (DE.read (de_glob (v := .str "-") (by rfl) t_NOTHING (by exact ⟨_, rfl⟩) (by intro _; rfl))) (nomark _)) (dss_one (ds_retA (da_lst das_nil))) dss_nil) (dss_one (ds_retA (da_comp (own := ["piece"]) (cap := []) (t := (.name 0)) (by rfl) (comp_scope (sc := (defScope s_rows_in).names) (N := ["text"]) (by rfl) (by rfl) (by rfl) (by decide +kernel)) (di_list hb1 (DR.cur (DA.read (da_split (dr_var 0 (pv 0)) (drs_cons (DE.read de_str) drs_nil))))) (by decide) (fun B' C' s₀ H₀ fp pn => ⟨(pg_name (i := 0) (show List.Nodup (["piece"] : List Str) from by decide +kernel) (by rfl) (by first|exact .inl rfl|exact .inr rfl)), difs_nil, (de_callF h_row_in (hr.mono (by decide)) (by rfl) (dns_cons (dn_var 0 (pv 0)) dns_nil))⟩)))))
theorem okx_rows_in {f : Addr} {fd : FuncData} (T : Txt K mg C) (F : Fun K "rows_in" "rows_in" s_rows_in f fd) {CT HE : Addr} (U : Exc0 K mg CT HE "NoLine" "HallError" [("NoName", false), ("NoNumber", false)]) (h_row_in : Fx P w K mg base "row_in" 3 1 m_row_in) (hx_row_in : Ry P w K mg base (fun _ => CT) "-" "row_in" 4 1 mx_row_in) : FnOk P w K mg base (CX1 P w) 5 f fd ["text"] (ySp ⟨K, w⟩ (fun _ => CT) "-" 1 (mirY ["text"] 1 gx_rows_in)) := by
  obtain ⟨tok_NOTHING, t_NOTHING⟩ := T.c_NOTHING'
  have sc := sc_rows_in
  refine fn_raiseY (k := 4) F sc_rows_in (fun cdv A outer s H E B pn hr => ?_)
  exact (dvs_seq (ds_if (dt_cmp (op_eqD hr.units) ok_eq (dr_var 0 (pv 0)) (DE.read (de_glob (v := .str "-") (by rfl) t_NOTHING (by exact ⟨_, rfl⟩) (by intro _; rfl))) (nomark _)) (dss_one (ds_retA (da_lst das_nil))) dss_nil) (dvs_ret (dv_compE (own := ["piece"]) (cap := []) (t := (.name 0)) (by rfl) (comp_scope (sc := (defScope s_rows_in).names) (N := ["text"]) (by rfl) (by rfl) (by rfl) (by decide +kernel)) (di_list hb1 (DR.cur (DA.read (da_split (dr_var 0 (pv 0)) (drs_cons (DE.read de_str) drs_nil))))) (by decide) ⟨rfl, rfl⟩ exit_Z (fun B' C' s₀ H₀ fp pn => ⟨(pg_name (i := 0) (show List.Nodup (["piece"] : List Str) from by decide +kernel) (by rfl) (by first|exact .inl rfl|exact .inr rfl)), difs_nil⟩) (fun B' C' s₀ H₀ fp pn pc E' => (de_callF h_row_in (hr.mono (by decide)) (by rfl) (dns_cons (dn_var 0 (pv 0)) dns_nil))) (fun B' C' s₀ H₀ fp pn pc E' => (dv_call pass_WX hx_row_in mirY_len (hr.mono (by decide)) (by rfl) (dns_cons (dn_var 0 (pv 0)) dns_nil))))))
theorem sc_ticket_in : FnScope ["text", "parts"] ["text"] (defScope s_ticket_in) := ⟨rfl, rfl, rfl, by decide +kernel, rfl, by decide +kernel, by decide +kernel⟩
theorem ok_ticket_in {f : Addr} {fd : FuncData} (T : Txt K mg C) (F : Fun K "ticket_in" "ticket_in" s_ticket_in f fd) (h_number_in : Fx P w K mg base "number_in" 1 1 m_number_in) (h_name_in : Fx P w K mg base "name_in" 2 1 m_name_in) : FnOk P w K mg base CX0 3 f fd ["text"] (pSp ⟨K, w⟩ 1 (len? 1 (mir ["text", "parts"] g_ticket_in))) := by
  have sc := sc_ticket_in
  refine fn_pure (k := 2) F sc_ticket_in (fun cdv A outer s H E B hr => ?_)
  exact (dss_cons (ds_set (i := 1) sc.nd (by rfl) (by first|exact .inl rfl|exact .inr rfl) (de_part (dr_var 0 (pv 0)) (drs_cons (DE.read de_str) drs_nil))) (dss_one (ds_ret (de_tup (das_cons (de_callF h_name_in (hr.mono (by decide)) (by rfl) (dns_cons (dn_val (de_item2 (dr_var 1 (pv 1)) de_int.read (by intro _ _; rfl))) dns_nil)) (das_cons (de_callF h_number_in (hr.mono (by decide)) (by rfl) (dns_cons (dn_val (de_item2 (dr_var 1 (pv 1)) de_int.read (by intro _ _; rfl))) dns_nil)) das_nil))))))
theorem okx_ticket_in {f : Addr} {fd : FuncData} (T : Txt K mg C) (F : Fun K "ticket_in" "ticket_in" s_ticket_in f fd) {CT HE : Addr} (U : Exc0 K mg CT HE "NoLine" "HallError" [("NoName", false), ("NoNumber", false)]) (h_name_in : Fx P w K mg base "name_in" 2 1 m_name_in) (hx_name_in : Ry P w K mg base (fun _ => CT) "-" "name_in" 3 1 mx_name_in) (hx_number_in : Ry P w K mg base (fun _ => CT) "-" "number_in" 3 1 mx_number_in) : FnOk P w K mg base (CX1 P w) 4 f fd ["text"] (ySp ⟨K, w⟩ (fun _ => CT) "-" 1 (mirY ["text", "parts"] 1 gx_ticket_in)) := by
  have sc := sc_ticket_in
  refine fn_raiseY (k := 3) F sc_ticket_in (fun cdv A outer s H E B pn hr => ?_)
  exact (dvs_seq (ds_set (i := 1) sc.nd (by rfl) (by first|exact .inl rfl|exact .inr rfl) (de_part (dr_var 0 (pv 0)) (drs_cons (DE.read de_str) drs_nil))) (dvs_alt (dvs_ret (dv_tuple (dva_here (dv_call pass_WX hx_name_in mirY_len (hr.mono (by decide)) (by rfl) (dns_cons (dn_val (de_item2 (dr_var 1 (pv 1)) de_int.read (by intro _ _; rfl))) dns_nil))))) (dvs_ret (dv_tuple (dva_next (de_callF h_name_in (hr.mono (by decide)) (by rfl) (dns_cons (dn_val (de_item2 (dr_var 1 (pv 1)) de_int.read (by intro _ _; rfl))) dns_nil)) (dva_here (dv_call pass_WX hx_number_in mirY_len (hr.mono (by decide)) (by rfl) (dns_cons (dn_val (de_item2 (dr_var 1 (pv 1)) de_int.read (by intro _ _; rfl))) dns_nil))))))))
theorem sc_queue_in : FnScope ["text"] ["text"] (defScope s_queue_in) := ⟨rfl, rfl, rfl, by decide +kernel, rfl, by decide +kernel, by decide +kernel⟩
theorem ok_queue_in {f : Addr} {fd : FuncData} (T : Txt K mg C) (F : Fun K "queue_in" "queue_in" s_queue_in f fd) (h_ticket_in : Fx P w K mg base "ticket_in" 3 1 m_ticket_in) : FnOk P w K mg base CX0 4 f fd ["text"] (pSp ⟨K, w⟩ 1 (len? 1 (mir ["text"] g_queue_in))) := by
  obtain ⟨tok_NOTHING, t_NOTHING⟩ := T.c_NOTHING'
  have sc := sc_queue_in
  refine fn_pure (k := 3) F sc_queue_in (fun cdv A outer s H E B hr => ?_)
  exact (dss_cons (ds_if (dt_cmp (op_eqD hr.units) ok_eq (dr_var 0 (pv 0)) (DE.read (de_glob (v := .str "-") (by rfl) t_NOTHING (by exact ⟨_, rfl⟩) (by intro _; rfl))) (nomark _)) (dss_one (ds_retA (da_lst das_nil))) dss_nil) (dss_one (ds_retA (da_comp (own := ["piece"]) (cap := []) (t := (.name 0)) (by rfl) (comp_scope (sc := (defScope s_queue_in).names) (N := ["text"]) (by rfl) (by rfl) (by rfl) (by decide +kernel)) (di_list hb1 (DR.cur (DA.read (da_split (dr_var 0 (pv 0)) (drs_cons (DE.read de_str) drs_nil))))) (by decide) (fun B' C' s₀ H₀ fp pn => ⟨(pg_name (i := 0) (show List.Nodup (["piece"] : List Str) from by decide +kernel) (by rfl) (by first|exact .inl rfl|exact .inr rfl)), difs_nil, (de_callF h_ticket_in (hr.mono (by decide)) (by rfl) (dns_cons (dn_var 0 (pv 0)) dns_nil))⟩)))))
theorem okx_queue_in {f : Addr} {fd : FuncData} (T : Txt K mg C) (F : Fun K "queue_in" "queue_in" s_queue_in f fd) {CT HE : Addr} (U : Exc0 K mg CT HE "NoLine" "HallError" [("NoName", false), ("NoNumber", false)]) (h_ticket_in : Fx P w K mg base "ticket_in" 3 1 m_ticket_in) (hx_ticket_in : Ry P w K mg base (fun _ => CT) "-" "ticket_in" 4 1 mx_ticket_in) : FnOk P w K mg base (CX1 P w) 5 f fd ["text"] (ySp ⟨K, w⟩ (fun _ => CT) "-" 1 (mirY ["text"] 1 gx_queue_in)) := by
  obtain ⟨tok_NOTHING, t_NOTHING⟩ := T.c_NOTHING'
  have sc := sc_queue_in
  refine fn_raiseY (k := 4) F sc_queue_in (fun cdv A outer s H E B pn hr => ?_)
  exact (dvs_seq (ds_if (dt_cmp (op_eqD hr.units) ok_eq (dr_var 0 (pv 0)) (DE.read (de_glob (v := .str "-") (by rfl) t_NOTHING (by exact ⟨_, rfl⟩) (by intro _; rfl))) (nomark _)) (dss_one (ds_retA (da_lst das_nil))) dss_nil) (dvs_ret (dv_compE (own := ["piece"]) (cap := []) (t := (.name 0)) (by rfl) (comp_scope (sc := (defScope s_queue_in).names) (N := ["text"]) (by rfl) (by rfl) (by rfl) (by decide +kernel)) (di_list hb1 (DR.cur (DA.read (da_split (dr_var 0 (pv 0)) (drs_cons (DE.read de_str) drs_nil))))) (by decide) ⟨rfl, rfl⟩ exit_Z (fun B' C' s₀ H₀ fp pn => ⟨(pg_name (i := 0) (show List.Nodup (["piece"] : List Str) from by decide +kernel) (by rfl) (by first|exact .inl rfl|exact .inr rfl)), difs_nil⟩) (fun B' C' s₀ H₀ fp pn pc E' => (de_callF h_ticket_in (hr.mono (by decide)) (by rfl) (dns_cons (dn_var 0 (pv 0)) dns_nil))) (fun B' C' s₀ H₀ fp pn pc E' => (dv_call pass_WX hx_ticket_in mirY_len (hr.mono (by decide)) (by rfl) (dns_cons (dn_var 0 (pv 0)) dns_nil))))))
theorem sc_l_cell : FnScope ["_law_script", "_law_k"] ["_law_script", "_law_k"] (defScope s_l_cell) := ⟨rfl, rfl, rfl, by decide +kernel, rfl, by decide +kernel, by decide +kernel⟩
theorem ok_l_cell {f : Addr} {fd : FuncData} (T : Txt K mg C) (F : Fun K "_law_cell" "_law_cell" s_l_cell f fd) : FnOk P w K mg base CX0 1 f fd ["_law_script", "_law_k"] (pSp ⟨K, w⟩ 2 (len? 2 (mir ["_law_script", "_law_k"] g_l_cell))) := by
  have sc := sc_l_cell
  refine fn_pure (k := 0) F sc_l_cell (fun cdv A outer s H E B hr => ?_)
  exact (dss_cons (ds_if (dt_cmp op_lt ok_lt (dr_var 1 (pv 1)) (DE.read (de_len (by rfl) T.b_len (drs_cons (dr_var 0 (pv 0)) drs_nil))) (nomark _)) (dss_one (ds_ret (de_item2 (dr_var 0 (pv 0)) (dr_var 1 (pv 1)) (by intro _ _; rfl)))) dss_nil) (dss_one (ds_ret de_int)))
theorem sc_l_stir : FnScope ["_law_cell_here", "_law_k", "_law_number"] ["_law_cell_here", "_law_k"] (defScope s_l_stir) := ⟨rfl, rfl, rfl, by decide +kernel, rfl, by decide +kernel, by decide +kernel⟩
theorem ok_l_stir {f : Addr} {fd : FuncData} (T : Txt K mg C) (F : Fun K "_law_stir" "_law_stir" s_l_stir f fd) : FnOk P w K mg base CX0 1 f fd ["_law_cell_here", "_law_k"] (pSp ⟨K, w⟩ 2 (len? 2 (mir ["_law_cell_here", "_law_k", "_law_number"] g_l_stir))) := by
  have sc := sc_l_stir
  refine fn_pure (k := 0) F sc_l_stir (fun cdv A outer s H E B hr => ?_)
  exact (dss_cons (ds_set (i := 2) sc.nd (by rfl) (by first|exact .inl rfl|exact .inr rfl) (de_mod (DE.read (de_plus (DE.read (de_plus (DE.read (de_mul (DE.read (de_mod (dr_var 0 (pv 0)) de_int.read)) de_int.read)) (DE.read (de_mul de_int.read (dr_var 1 (pv 1)))))) de_int.read)) de_int.read)) (dss_cons (ds_set (i := 2) sc.nd (by rfl) (by first|exact .inl rfl|exact .inr rfl) (de_mod (DE.read (de_mul (dr_var 2 (pv 2)) (dr_var 2 (pv 2)))) de_int.read)) (dss_one (ds_ret (de_mod (DE.read (de_plus (DE.read (de_plus (DE.read (de_mul (dr_var 2 (pv 2)) (dr_var 2 (pv 2)))) (DE.read (de_mul de_int.read (dr_var 2 (pv 2)))))) de_int.read)) de_int.read)))))
theorem sc_l_row : FnScope ["_law_script", "_law_at", "_law_base", "_law_count", "_law_cell_here", "_law_found", "_law_k"] ["_law_script", "_law_at", "_law_base", "_law_count"] (defScope s_l_row) := ⟨rfl, rfl, rfl, by decide +kernel, rfl, by decide +kernel, by decide +kernel⟩
theorem ok_l_row {f : Addr} {fd : FuncData} (T : Txt K mg C) (F : Fun K "_law_row" "_law_row" s_l_row f fd) (h_l_cell : Fx P w K mg base "_law_cell" 1 2 m_l_cell) (h_l_stir : Fx P w K mg base "_law_stir" 1 2 m_l_stir) : FnOk P w K mg base CX0 2 f fd ["_law_script", "_law_at", "_law_base", "_law_count"] (pSp ⟨K, w⟩ 4 (len? 4 (mir ["_law_script", "_law_at", "_law_base", "_law_count", "_law_cell_here", "_law_found", "_law_k"] g_l_row))) := by
  have sc := sc_l_row
  refine fn_pure (k := 1) F sc_l_row (fun cdv A outer s H E B hr => ?_)
  exact (dss_cons (ds_set (i := 4) sc.nd (by rfl) (by first|exact .inl rfl|exact .inr rfl) (de_callF h_l_cell (hr.mono (by decide)) (by rfl) (dns_cons (dn_var 0 (pv 0)) (dns_cons (dn_var 1 (pv 1)) dns_nil)))) (dss_cons (ds_if (dt_cmp (op_eqD hr.units) ok_eq (DE.read (de_and' (DE.read (de_shr (DE.read (de_callF h_l_cell (hr.mono (by decide)) (by rfl) (dns_cons (dn_var 0 (pv 0)) (dns_cons (dn_val de_int) dns_nil)))) (DE.read (de_mod (dr_var 1 (pv 1)) de_int.read)))) de_int.read)) de_int.read (nomark _)) (dss_one (ds_retA (da_comp (own := ["_law_k"]) (cap := [("_law_base", 2), ("_law_cell_here", 4)]) (t := (.name 0)) (by rfl) (comp_scope (sc := (defScope s_l_row).names) (N := ["_law_script", "_law_at", "_law_base", "_law_count", "_law_cell_here", "_law_found", "_law_k"]) (by rfl) (by rfl) (by rfl) (by decide +kernel)) (di_rng1 (by rfl) T.b_range (drs_cons (dr_var 3 (pv 3)) drs_nil)) (by decide) (fun B' C' s₀ H₀ fp pn => ⟨(pg_name (i := 0) (show List.Nodup (["_law_k", "_law_base", "_law_cell_here"] : List Str) from by decide +kernel) (by rfl) (by first|exact .inl rfl|exact .inr rfl)), difs_nil, (de_mod (DE.read (de_div (DE.read (de_callF h_l_stir (hr.mono (by decide)) (by rfl) (dns_cons (dn_var 2 (pv 2)) (dns_cons (dn_var 0 (pv 0)) dns_nil)))) de_int.read)) (dr_var 1 (pv 1)))⟩)))) dss_nil) (dss_cons (ds_setA (i := 5) sc.nd (by rfl) (by first|exact .inl rfl|exact .inr rfl) (da_lst das_nil)) (dss_cons (ds_for (t := (.name 6)) PassesOwn.never (by rfl) (di_rng1 (by rfl) T.b_range (drs_cons (dr_var 3 (pv 3)) drs_nil)) (pg_name (i := 6) sc.nd (by rfl) (by first|exact .inl rfl|exact .inr rfl)) (dss_cons (ds_app 5 (pv 5) (de_mod (dr_var 4 (pv 4)) (dr_var 2 (pv 2)))) (dss_one (ds_set (i := 4) sc.nd (by rfl) (by first|exact .inl rfl|exact .inr rfl) (de_div (dr_var 4 (pv 4)) (dr_var 2 (pv 2))))))) (dss_one (ds_retV 5 (pv 5)))))))
theorem sc_l_names : FnScope ["_law_cell_here", "_law_many", "_law_letters", "_law_size", "_law_at", "_law_names_here", "_law_k", "_law_name_here", "_law_j", "_law_step"] ["_law_cell_here", "_law_many"] (defScope s_l_names) := ⟨rfl, rfl, rfl, by decide +kernel, rfl, by decide +kernel, by decide +kernel⟩
theorem ok_l_names {f : Addr} {fd : FuncData} (T : Txt K mg C) (F : Fun K "_law_names" "_law_names" s_l_names f fd) : FnOk P w K mg base CX0 1 f fd ["_law_cell_here", "_law_many"] (pSp ⟨K, w⟩ 2 (len? 2 (mir ["_law_cell_here", "_law_many", "_law_letters", "_law_size", "_law_at", "_law_names_here", "_law_k", "_law_name_here", "_law_j", "_law_step"] g_l_names))) := by
  have sc := sc_l_names
  refine fn_pure (k := 0) F sc_l_names (fun cdv A outer s H E B hr => ?_)
  exact (dss_cons (ds_set (i := 2) sc.nd (by rfl) (by first|exact .inl rfl|exact .inr rfl) de_str) (dss_cons (ds_set (i := 3) sc.nd (by rfl) (by first|exact .inl rfl|exact .inr rfl) (de_plus de_int.read (DE.read (de_mod (dr_var 0 (pv 0)) de_int.read)))) (dss_cons (ds_if (dt_cmp op_le ok_le (dr_var 1 (pv 1)) de_int.read (nomark _)) (dss_one (ds_set (i := 3) sc.nd (by rfl) (by first|exact .inl rfl|exact .inr rfl) (de_plus de_int.read (DE.read (de_mod (dr_var 0 (pv 0)) de_int.read))))) dss_nil) (dss_cons (ds_set (i := 4) sc.nd (by rfl) (by first|exact .inl rfl|exact .inr rfl) (de_mod (DE.read (de_div (dr_var 0 (pv 0)) de_int.read)) (dr_var 3 (pv 3)))) (dss_cons (ds_setA (i := 5) sc.nd (by rfl) (by first|exact .inl rfl|exact .inr rfl) (da_lst das_nil)) (dss_cons (ds_for (t := (.name 6)) PassesOwn.never (by rfl) (di_rng1 (by rfl) T.b_range (drs_cons (dr_var 1 (pv 1)) drs_nil)) (pg_name (i := 6) sc.nd (by rfl) (by first|exact .inl rfl|exact .inr rfl)) (dss_cons (ds_set (i := 7) sc.nd (by rfl) (by first|exact .inl rfl|exact .inr rfl) de_str) (dss_cons (ds_for (t := (.name 8)) PassesOwn.never (by rfl) (di_rng1 (by rfl) T.b_range (drs_cons (dr_var 3 (pv 3)) drs_nil)) (pg_name (i := 8) sc.nd (by rfl) (by first|exact .inl rfl|exact .inr rfl)) (dss_cons (ds_set (i := 9) sc.nd (by rfl) (by first|exact .inl rfl|exact .inr rfl) (de_div (dr_var 0 (pv 0)) (DE.read (de_plus de_int.read (DE.read (de_mul de_int.read (dr_var 8 (pv 8)))))))) (dss_cons (ds_if (dt_cmp (op_eqD hr.units) ok_eq (dr_var 8 (pv 8)) (dr_var 4 (pv 4)) (nomark _)) (dss_one (ds_set (i := 9) sc.nd (by rfl) (by first|exact .inl rfl|exact .inr rfl) (de_plus (dr_var 9 (pv 9)) (DE.read (de_mod (dr_var 6 (pv 6)) de_int.read))))) dss_nil) (dss_cons (ds_if (dt_cmp (op_eqD hr.units) ok_eq (dr_var 8 (pv 8)) (DE.read (de_mod (DE.read (de_plus (dr_var 4 (pv 4)) de_int.read)) (dr_var 3 (pv 3)))) (nomark _)) (dss_one (ds_set (i := 9) sc.nd (by rfl) (by first|exact .inl rfl|exact .inr rfl) (de_plus (dr_var 9 (pv 9)) (DE.read (de_div (dr_var 6 (pv 6)) de_int.read))))) dss_nil) (dss_one (ds_if (dt_cmp (op_eqD hr.units) ok_eq (dr_var 8 (pv 8)) de_int.read (nomark _)) (dss_one (ds_set (i := 7) sc.nd (by rfl) (by first|exact .inl rfl|exact .inr rfl) (de_plus (dr_var 7 (pv 7)) (DE.read (de_item2 (dr_var 2 (pv 2)) (DE.read (de_mod (dr_var 9 (pv 9)) de_int.read)) (by intro _ _; rfl)))))) (dss_one (ds_set (i := 7) sc.nd (by rfl) (by first|exact .inl rfl|exact .inr rfl) (de_plus (dr_var 7 (pv 7)) (DE.read (de_item2 (DE.read (de_plus (dr_var 2 (pv 2)) (DE.read de_str))) (DE.read (de_mod (dr_var 9 (pv 9)) de_int.read)) (by intro _ _; rfl)))))))))))) (dss_one (ds_app 5 (pv 5) (de_var 7 (pv 7))))))) (dss_one (ds_retV 5 (pv 5)))))))))
theorem sc_l_text : FnScope ["_law_script", "_law_names_here", "_law_many", "_law_texts", "_law_step", "_law_name_here", "_law_some"] ["_law_script", "_law_names_here"] (defScope s_l_text) := ⟨rfl, rfl, rfl, by decide +kernel, rfl, by decide +kernel, by decide +kernel⟩
theorem ok_l_text {f : Addr} {fd : FuncData} (T : Txt K mg C) (F : Fun K "_law_text" "_law_text" s_l_text f fd) (h_l_cell : Fx P w K mg base "_law_cell" 1 2 m_l_cell) (h_l_row : Fx P w K mg base "_law_row" 2 4 m_l_row) : FnOk P w K mg base CX0 3 f fd ["_law_script", "_law_names_here"] (pSp ⟨K, w⟩ 2 (len? 2 (mir ["_law_script", "_law_names_here", "_law_many", "_law_texts", "_law_step", "_law_name_here", "_law_some"] g_l_text))) := by
  have sc := sc_l_text
  refine fn_pure (k := 2) F sc_l_text (fun cdv A outer s H E B hr => ?_)
  exact (dss_cons (ds_set (i := 2) sc.nd (by rfl) (by first|exact .inl rfl|exact .inr rfl) (de_mod (DE.read (de_callF h_l_cell (hr.mono (by decide)) (by rfl) (dns_cons (dn_var 0 (pv 0)) (dns_cons (dn_val de_int) dns_nil)))) de_int.read)) (dss_cons (ds_setA (i := 3) sc.nd (by rfl) (by first|exact .inl rfl|exact .inr rfl) (da_lst das_nil)) (dss_cons (ds_for (t := (.name 4)) PassesOwn.never (by rfl) (di_list hb0 (DE.fix (DA.frz (da_callF h_l_row (hr.mono (by decide)) (by rfl) (dns_cons (dn_var 0 (pv 0)) (dns_cons (dn_val de_int) (dns_cons (dn_val (de_pow de_int.read de_int.read)) (dns_cons (dn_var 2 (pv 2)) dns_nil)))))))) (pg_name (i := 4) sc.nd (by rfl) (by first|exact .inl rfl|exact .inr rfl)) (dss_cons (ds_set (i := 5) sc.nd (by rfl) (by first|exact .inl rfl|exact .inr rfl) (de_item2 (dr_var 1 (pv 1)) (DE.read (de_mod (DE.read (de_div (dr_var 4 (pv 4)) (DE.read (de_pow de_int.read de_int.read)))) (DE.read (de_len (by rfl) T.b_len (drs_cons (dr_var 1 (pv 1)) drs_nil))))) (by intro _ _; rfl))) (dss_cons (ds_set (i := 6) sc.nd (by rfl) (by first|exact .inl rfl|exact .inr rfl) (DA.frz (da_rep (DA.read (da_lst (das_cons (de_var 5 (pv 5)) das_nil))) (DE.read (de_mod (DE.read (de_div (dr_var 4 (pv 4)) (DE.read (de_pow de_int.read de_int.read)))) de_int.read))))) (dss_one (ds_if (dt_cmp (op_eqD hr.units) ok_eq (DE.read (de_mod (DE.read (de_div (DE.read (de_callF h_l_cell (hr.mono (by decide)) (by rfl) (dns_cons (dn_var 0 (pv 0)) (dns_cons (dn_val de_int) dns_nil)))) de_int.read)) de_int.read)) de_int.read (nomark _)) (dss_one (ds_app 3 (pv 3) (de_join (DE.read de_str) (drs_cons (DA.read (da_catS (DA.read (da_lst (das_cons (de_plus (DE.read (de_strc (by rfl) T.b_str (drs_cons (DE.read (de_mod (dr_var 4 (pv 4)) (DE.read (de_pow de_int.read de_int.read)))) drs_nil))) (DE.read de_str)) das_nil))) (dr_var 6 (pv 6)))) drs_nil)))) (dss_one (ds_app 3 (pv 3) (de_plus (DE.read (de_plus (dr_var 5 (pv 5)) (DE.read de_str))) (DE.read (de_strc (by rfl) T.b_str (drs_cons (DE.read (de_mod (dr_var 4 (pv 4)) (DE.read (de_pow de_int.read de_int.read)))) drs_nil))))))))))) (dss_cons (ds_if (dt_cmp (op_eqD hr.units) ok_eq (dr_var 3 (pv 3)) (DA.read (da_lst das_nil)) (nomark _)) (dss_one (ds_ret de_str)) dss_nil) (dss_one (ds_ret (de_join (DE.read (de_item2 (DA.read (da_lst (das_cons de_str (das_cons de_str das_nil)))) (DE.read (de_mod (DE.read (de_div (DE.read (de_callF h_l_cell (hr.mono (by decide)) (by rfl) (dns_cons (dn_var 0 (pv 0)) (dns_cons (dn_val de_int) dns_nil)))) de_int.read)) de_int.read)) (by intro _ _; rfl))) (drs_cons (dr_var 3 (pv 3)) drs_nil))))))))
theorem sc_l_spoilt : FnScope ["_law_text_here", "_law_cell_here", "_law_signs", "_law_way", "_law_sign", "_law_at", "_law_words", "_law_place", "_law_more"] ["_law_text_here", "_law_cell_here"] (defScope s_l_spoilt) := ⟨rfl, rfl, rfl, by decide +kernel, rfl, by decide +kernel, by decide +kernel⟩
theorem ok_l_spoilt {f : Addr} {fd : FuncData} (T : Txt K mg C) (F : Fun K "_law_spoilt" "_law_spoilt" s_l_spoilt f fd) : FnOk P w K mg base CX0 1 f fd ["_law_text_here", "_law_cell_here"] (pSp ⟨K, w⟩ 2 (len? 2 (mir ["_law_text_here", "_law_cell_here", "_law_signs", "_law_way", "_law_sign", "_law_at", "_law_words", "_law_place", "_law_more"] g_l_spoilt))) := by
  have sc := sc_l_spoilt
  refine fn_pure (k := 0) F sc_l_spoilt (fun cdv A outer s H E B hr => ?_)
  exact (dss_cons (ds_set (i := 2) sc.nd (by rfl) (by first|exact .inl rfl|exact .inr rfl) (DA.frz (da_catS (DA.read (da_listS (by rfl) (by rfl) T.b_list (drs_cons (DE.read de_str) drs_nil))) (DA.read (da_lst (das_cons de_str (das_cons de_str das_nil))))))) (dss_cons (ds_set (i := 3) sc.nd (by rfl) (by first|exact .inl rfl|exact .inr rfl) (de_mod (dr_var 1 (pv 1)) de_int.read)) (dss_cons (ds_set (i := 4) sc.nd (by rfl) (by first|exact .inl rfl|exact .inr rfl) (de_item2 (dr_var 2 (pv 2)) (DE.read (de_mod (DE.read (de_div (dr_var 1 (pv 1)) de_int.read)) de_int.read)) (by intro _ _; rfl))) (dss_cons (ds_set (i := 5) sc.nd (by rfl) (by first|exact .inl rfl|exact .inr rfl) (de_mod (DE.read (de_div (dr_var 1 (pv 1)) de_int.read)) (DE.read (de_plus (DE.read (de_len (by rfl) T.b_len (drs_cons (dr_var 0 (pv 0)) drs_nil))) de_int.read)))) (dss_cons (ds_if (dt_cmp (op_eqD hr.units) ok_eq (dr_var 3 (pv 3)) de_int.read (nomark _)) (dss_one (ds_ret (de_plus (DE.read (de_plus (DE.read (de_sliceS (dr_var 0 (pv 0)) do_none (do_some (dr_var 5 (pv 5))))) (dr_var 4 (pv 4)))) (DE.read (de_sliceS (dr_var 0 (pv 0)) (do_some (dr_var 5 (pv 5))) do_none))))) dss_nil) (dss_cons (ds_if (dt_cmp (op_eqD hr.units) ok_eq (dr_var 3 (pv 3)) de_int.read (nomark _)) (dss_one (ds_ret (de_plus (DE.read (de_sliceS (dr_var 0 (pv 0)) do_none (do_some (dr_var 5 (pv 5))))) (DE.read (de_sliceS (dr_var 0 (pv 0)) (do_some (DE.read (de_plus (dr_var 5 (pv 5)) de_int.read))) do_none))))) dss_nil) (dss_cons (ds_if (dt_cmp (op_eqD hr.units) ok_eq (dr_var 3 (pv 3)) de_int.read (nomark _)) (dss_one (ds_ret (de_plus (DE.read (de_plus (DE.read (de_sliceS (dr_var 0 (pv 0)) do_none (do_some (dr_var 5 (pv 5))))) (dr_var 4 (pv 4)))) (DE.read (de_sliceS (dr_var 0 (pv 0)) (do_some (DE.read (de_plus (dr_var 5 (pv 5)) de_int.read))) do_none))))) dss_nil) (dss_cons (ds_setA (i := 6) sc.nd (by rfl) (by first|exact .inl rfl|exact .inr rfl) (da_split (dr_var 0 (pv 0)) (drs_cons (DE.read de_str) drs_nil))) (dss_cons (ds_set (i := 7) sc.nd (by rfl) (by first|exact .inl rfl|exact .inr rfl) (de_mod (DE.read (de_div (dr_var 1 (pv 1)) de_int.read)) (DE.read (de_len (by rfl) T.b_len (drs_cons (dr_var 6 (pv 6)) drs_nil))))) (dss_cons (ds_if (dt_cmp (op_eqD hr.units) ok_eq (dr_var 3 (pv 3)) de_int.read (nomark _)) (by refine dss_cons ?_ ?_; (refine ds_set (i := 8) ?_ ?_ ?_ ?_ ?_ ?_; exact sc.nd; rfl; (first | exact Or.inl rfl | exact Or.inr rfl); (refine de_item2 ?_ ?_ ?_; (refine DA.read ?_; refine da_lst ?_; refine das_consS (star_of ?_) ?_ ?_; rfl; exact de_str; refine das_consS (star_of ?_) ?_ ?_; rfl; exact de_str; refine das_consS (star_of ?_) ?_ ?_; rfl; exact de_str; refine das_consS (star_of ?_) ?_ ?_; rfl; exact de_str; refine das_consS (star_of ?_) ?_ ?_; rfl; exact de_str; refine das_consS (star_of ?_) ?_ ?_; rfl; exact de_str; exact das_nil); exact (DE.read (de_mod (DE.read (de_div (dr_var 1 (pv 1)) de_int.read)) de_int.read)); (intro _ _; rfl)); rfl; (first | exact Or.inl rfl | exact Or.inr rfl)); exact (dss_one (ds_setA (i := 6) sc.nd (by rfl) (by first|exact .inl rfl|exact .inr rfl) (da_catS (DA.read (da_catS (DA.read (da_slice (dr_var 6 (pv 6)) do_none (do_some (dr_var 7 (pv 7))))) (DA.read (da_lst (das_cons (de_var 8 (pv 8)) das_nil))))) (DA.read (da_slice (dr_var 6 (pv 6)) (do_some (dr_var 7 (pv 7))) do_none)))))) dss_nil) (dss_cons (ds_if (dt_cmp (op_eqD hr.units) ok_eq (dr_var 3 (pv 3)) de_int.read (nomark _)) (dss_one (ds_setA (i := 6) sc.nd (by rfl) (by first|exact .inl rfl|exact .inr rfl) (da_catS (DA.read (da_catS (DA.read (da_slice (dr_var 6 (pv 6)) do_none (do_some (dr_var 7 (pv 7))))) (DA.read (da_slice (dr_var 6 (pv 6)) (do_some (dr_var 7 (pv 7))) (do_some (DE.read (de_plus (dr_var 7 (pv 7)) de_int.read))))))) (DA.read (da_slice (dr_var 6 (pv 6)) (do_some (dr_var 7 (pv 7))) do_none))))) dss_nil) (dss_cons (ds_if (dt_cmp (op_eqD hr.units) ok_eq (dr_var 3 (pv 3)) de_int.read (nomark _)) (dss_one (ds_setA (i := 6) sc.nd (by rfl) (by first|exact .inl rfl|exact .inr rfl) (da_catS (DA.read (da_slice (dr_var 6 (pv 6)) do_none (do_some (dr_var 7 (pv 7))))) (DA.read (da_slice (dr_var 6 (pv 6)) (do_some (DE.read (de_plus (dr_var 7 (pv 7)) de_int.read))) do_none))))) dss_nil) (dss_cons (ds_if (dt_cmp (op_eqD hr.units) ok_eq (dr_var 3 (pv 3)) de_int.read (nomark _)) (dss_one (ds_put 6 (pv 6) (de_var 7 (pv 7)) (de_plus (DE.read (de_strc (by rfl) T.b_str (drs_cons (DE.read (de_sub (DE.read (de_pow de_int.read de_int.read)) (DE.read (de_mod (DE.read (de_div (dr_var 1 (pv 1)) de_int.read)) de_int.read)))) drs_nil))) (DE.read (de_item2 (DA.read (da_lst (das_cons de_str (das_cons de_str (das_cons de_str (das_cons de_str das_nil)))))) (DE.read (de_mod (DE.read (de_div (dr_var 1 (pv 1)) de_int.read)) de_int.read)) (by intro _ _; rfl)))))) dss_nil) (dss_one (ds_ret (de_join (DE.read de_str) (drs_cons (dr_var 6 (pv 6)) drs_nil)))))))))))))))))
theorem sc_l_figures : FnScope ["_law_word", "_law_sign"] ["_law_word"] (defScope s_l_figures) := ⟨rfl, rfl, rfl, by decide +kernel, rfl, by decide +kernel, by decide +kernel⟩
theorem ok_l_figures {f : Addr} {fd : FuncData} (T : Txt K mg C) (F : Fun K "_law_figures" "_law_figures" s_l_figures f fd) : FnOk P w K mg base CX0 1 f fd ["_law_word"] (pSp ⟨K, w⟩ 1 (len? 1 (mir ["_law_word", "_law_sign"] g_l_figures))) := by
  have sc := sc_l_figures
  refine fn_pure (k := 0) F sc_l_figures (fun cdv A outer s H E B hr => ?_)
  exact (dss_cons (ds_if (dt_w (dw_or (dt_cmp op_lt ok_lt (DE.read (de_len (by rfl) T.b_len (drs_cons (dr_var 0 (pv 0)) drs_nil))) de_int.read (nomark _)) (dw_or1 (dt_cmp op_gt ok_gt (DE.read (de_len (by rfl) T.b_len (drs_cons (dr_var 0 (pv 0)) drs_nil))) de_int.read (nomark _))))) (dss_one (ds_ret de_bl)) dss_nil) (dss_cons (ds_for (t := (.name 1)) PassesOwn.never (by rfl) (di_str (dr_var 0 (pv 0))) (pg_name (i := 1) sc.nd (by rfl) (by first|exact .inl rfl|exact .inr rfl)) (dss_one (ds_if (dt_cmp op_ninA ok_in (dr_var 1 (pv 1)) (DE.read de_str) (by rfl)) (dss_one (ds_ret de_bl)) dss_nil))) (dss_one (ds_ret (de_orv (de_cmp (op_eqD hr.units) ok_eq (dr_var 0 (pv 0)) (DE.read de_str) (nomark _)) (de_one (de_cmp (op_neD hr.units) ok_eq (DE.read (de_item2 (dr_var 0 (pv 0)) de_int.read (by intro _ _; rfl))) (DE.read de_str) (nomark _))))))))
theorem sc_l_name : FnScope ["_law_word", "_law_k", "_law_sign"] ["_law_word"] (defScope s_l_name) := ⟨rfl, rfl, rfl, by decide +kernel, rfl, by decide +kernel, by decide +kernel⟩
theorem ok_l_name {f : Addr} {fd : FuncData} (T : Txt K mg C) (F : Fun K "_law_name" "_law_name" s_l_name f fd) : FnOk P w K mg base CX0 1 f fd ["_law_word"] (pSp ⟨K, w⟩ 1 (len? 1 (mir ["_law_word", "_law_k", "_law_sign"] g_l_name))) := by
  have sc := sc_l_name
  refine fn_pure (k := 0) F sc_l_name (fun cdv A outer s H E B hr => ?_)
  exact (dss_cons (ds_if (dt_w (dw_or (dt_cmp op_lt ok_lt (DE.read (de_len (by rfl) T.b_len (drs_cons (dr_var 0 (pv 0)) drs_nil))) de_int.read (nomark _)) (dw_or1 (dt_cmp op_gt ok_gt (DE.read (de_len (by rfl) T.b_len (drs_cons (dr_var 0 (pv 0)) drs_nil))) de_int.read (nomark _))))) (dss_one (ds_ret de_bl)) dss_nil) (dss_cons (ds_for (t := (.tup [1, 2])) PassesOwn.never (by rfl) (di_enumS (by rfl) T.b_enumerate (drs_cons (dr_var 0 (pv 0)) drs_nil)) (pg_tup (by rfl) (pgs_cons (pg_name (i := 1) sc.nd (by rfl) (by first|exact .inl rfl|exact .inr rfl)) (pgs_cons (pg_name (i := 2) sc.nd (by rfl) (by first|exact .inl rfl|exact .inr rfl)) pgs_nil))) (dss_one (ds_if (dt_w (dw_and (dt_cmp op_ninA ok_in (dr_var 2 (pv 2)) (DE.read de_str) (by rfl)) (dw_and1 (dt_w (dw_or (dt_cmp (op_eqD hr.units) ok_eq (dr_var 1 (pv 1)) de_int.read (nomark _)) (dw_or1 (dt_cmp op_ninA ok_in (dr_var 2 (pv 2)) (DE.read de_str) (by rfl)))))))) (dss_one (ds_ret de_bl)) dss_nil))) (dss_one (ds_ret de_bl))))
theorem sc_l_rows : FnScope ["_law_text_here", "_law_found", "_law_part", "_law_words"] ["_law_text_here"] (defScope s_l_rows) := ⟨rfl, rfl, rfl, by decide +kernel, rfl, by decide +kernel, by decide +kernel⟩
theorem ok_l_rows {f : Addr} {fd : FuncData} (T : Txt K mg C) (F : Fun K "_law_rows" "_law_rows" s_l_rows f fd) (h_l_name : Fx P w K mg base "_law_name" 1 1 m_l_name) (h_l_figures : Fx P w K mg base "_law_figures" 1 1 m_l_figures) : FnOk P w K mg base CX0 2 f fd ["_law_text_here"] (pSp ⟨K, w⟩ 1 (len? 1 (mir ["_law_text_here", "_law_found", "_law_part", "_law_words"] g_l_rows))) := by
  have sc := sc_l_rows
  refine fn_pure (k := 1) F sc_l_rows (fun cdv A outer s H E B hr => ?_)
  exact (dss_cons (ds_setA (i := 1) sc.nd (by rfl) (by first|exact .inl rfl|exact .inr rfl) (da_lst das_nil)) (dss_cons (ds_if (dt_cmp (op_eqD hr.units) ok_eq (dr_var 0 (pv 0)) (DE.read de_str) (nomark _)) (dss_one (ds_retV 1 (pv 1))) dss_nil) (dss_cons (ds_for (t := (.name 2)) PassesOwn.never (by rfl) (di_list hb0 (DE.fix (DA.frz (da_split (dr_var 0 (pv 0)) (drs_cons (DE.read de_str) drs_nil))))) (pg_name (i := 2) sc.nd (by rfl) (by first|exact .inl rfl|exact .inr rfl)) (dss_cons (ds_set (i := 3) sc.nd (by rfl) (by first|exact .inl rfl|exact .inr rfl) (DA.frz (da_split (dr_var 2 (pv 2)) (drs_cons (DE.read de_str) drs_nil)))) (dss_cons (ds_if (dt_w (dw_or (dt_cmp (op_neD hr.units) ok_eq (DE.read (de_sliceS (DE.read (de_item2 (dr_var 3 (pv 3)) de_int.read (by intro _ _; rfl))) (do_some (DE.read (de_neg de_int.read))) do_none)) (DE.read de_str) (nomark _)) (dw_or1 (dt_not (dt_truth (DE.read (de_callF h_l_figures (hr.mono (by decide)) (by rfl) (dns_cons (dn_val (de_sliceS (DE.read (de_item2 (dr_var 3 (pv 3)) de_int.read (by intro _ _; rfl))) do_none (do_some (DE.read (de_neg de_int.read))))) dns_nil))) (by intro _; rfl)))))) (dss_one (ds_ret de_non)) dss_nil) (dss_cons (ds_if (dt_cmp op_gt ok_gt (DE.read (de_len (by rfl) T.b_len (drs_cons (DA.read (da_comp (own := ["_law_word"]) (cap := []) (t := (.name 0)) (by rfl) (comp_scope (sc := (defScope s_l_rows).names) (N := ["_law_text_here", "_law_found", "_law_part", "_law_words"]) (by rfl) (by rfl) (by rfl) (by decide +kernel)) (di_list hb1 (DR.cur (DA.read (da_slice (dr_var 3 (pv 3)) (do_some de_int.read) do_none)))) (by decide) (fun B' C' s₀ H₀ fp pn => ⟨(pg_name (i := 0) (show List.Nodup (["_law_word"] : List Str) from by decide +kernel) (by rfl) (by first|exact .inl rfl|exact .inr rfl)), (difs_one (dt_not (dt_truth (DE.read (de_callF h_l_name (hr.mono (by decide)) (by rfl) (dns_cons (dn_var 0 (pv 0)) dns_nil))) (by intro _; rfl)))), (de_var 0 (pv 0))⟩))) drs_nil))) de_int.read (nomark _)) (dss_one (ds_ret de_non)) dss_nil) (dss_one (ds_app 1 (pv 1) (de_tup (das_cons (de_intT (by rfl) T.b_int (drs_cons (DE.read (de_sliceS (DE.read (de_item2 (dr_var 3 (pv 3)) de_int.read (by intro _ _; rfl))) do_none (do_some (DE.read (de_neg de_int.read))))) drs_nil)) (das_cons (DA.frz (da_slice (dr_var 3 (pv 3)) (do_some de_int.read) do_none)) das_nil))))))))) (dss_one (ds_retV 1 (pv 1))))))
theorem sc_l_queue : FnScope ["_law_text_here", "_law_found", "_law_part", "_law_words"] ["_law_text_here"] (defScope s_l_queue) := ⟨rfl, rfl, rfl, by decide +kernel, rfl, by decide +kernel, by decide +kernel⟩
theorem ok_l_queue {f : Addr} {fd : FuncData} (T : Txt K mg C) (F : Fun K "_law_queue" "_law_queue" s_l_queue f fd) (h_l_figures : Fx P w K mg base "_law_figures" 1 1 m_l_figures) (h_l_name : Fx P w K mg base "_law_name" 1 1 m_l_name) : FnOk P w K mg base CX0 2 f fd ["_law_text_here"] (pSp ⟨K, w⟩ 1 (len? 1 (mir ["_law_text_here", "_law_found", "_law_part", "_law_words"] g_l_queue))) := by
  have sc := sc_l_queue
  refine fn_pure (k := 1) F sc_l_queue (fun cdv A outer s H E B hr => ?_)
  exact (dss_cons (ds_setA (i := 1) sc.nd (by rfl) (by first|exact .inl rfl|exact .inr rfl) (da_lst das_nil)) (dss_cons (ds_if (dt_cmp (op_eqD hr.units) ok_eq (dr_var 0 (pv 0)) (DE.read de_str) (nomark _)) (dss_one (ds_retV 1 (pv 1))) dss_nil) (dss_cons (ds_for (t := (.name 2)) PassesOwn.never (by rfl) (di_list hb0 (DE.fix (DA.frz (da_split (dr_var 0 (pv 0)) (drs_cons (DE.read de_str) drs_nil))))) (pg_name (i := 2) sc.nd (by rfl) (by first|exact .inl rfl|exact .inr rfl)) (dss_cons (ds_set (i := 3) sc.nd (by rfl) (by first|exact .inl rfl|exact .inr rfl) (DA.frz (da_split (dr_var 2 (pv 2)) (drs_cons (DE.read de_str) drs_nil)))) (dss_cons (ds_if (dt_w (dw_or (dt_cmp (op_neD hr.units) ok_eq (DE.read (de_len (by rfl) T.b_len (drs_cons (dr_var 3 (pv 3)) drs_nil))) de_int.read (nomark _)) (dw_or (dt_not (dt_truth (DE.read (de_callF h_l_name (hr.mono (by decide)) (by rfl) (dns_cons (dn_val (de_item2 (dr_var 3 (pv 3)) de_int.read (by intro _ _; rfl))) dns_nil))) (by intro _; rfl))) (dw_or1 (dt_not (dt_truth (DE.read (de_callF h_l_figures (hr.mono (by decide)) (by rfl) (dns_cons (dn_val (de_item2 (dr_var 3 (pv 3)) de_int.read (by intro _ _; rfl))) dns_nil))) (by intro _; rfl))))))) (dss_one (ds_ret de_non)) dss_nil) (dss_one (ds_app 1 (pv 1) (de_tup (das_cons (de_item2 (dr_var 3 (pv 3)) de_int.read (by intro _ _; rfl)) (das_cons (de_intT (by rfl) T.b_int (drs_cons (DE.read (de_item2 (dr_var 3 (pv 3)) de_int.read (by intro _ _; rfl))) drs_nil)) das_nil)))))))) (dss_one (ds_retV 1 (pv 1))))))
theorem sc_l_read : FnScope ["_law_text_here", "_law_which", "_law_found", "_law_kinds", "e"] ["_law_text_here", "_law_which"] (defScope s_l_read) := ⟨rfl, rfl, rfl, by decide +kernel, rfl, by decide +kernel, by decide +kernel⟩
theorem ok_l_read {f : Addr} {fd : FuncData} (T : Txt K mg C) (F : Fun K "_law_read" "_law_read" s_l_read f fd) {CT HE : Addr} (U : Exc0 K mg CT HE "NoLine" "HallError" [("NoName", false), ("NoNumber", false)]) (h_rows_in : Fx P w K mg base "rows_in" 4 1 m_rows_in) (h_queue_in : Fx P w K mg base "queue_in" 4 1 m_queue_in) (h_number_in : Fx P w K mg base "number_in" 1 1 m_number_in) (hx_rows_in : Ry P w K mg base (fun _ => CT) "-" "rows_in" 5 1 mx_rows_in) (hx_queue_in : Ry P w K mg base (fun _ => CT) "-" "queue_in" 5 1 mx_queue_in) (hx_number_in : Ry P w K mg base (fun _ => CT) "-" "number_in" 3 1 mx_number_in) : FnOk P w K mg base CX0 6 f fd ["_law_text_here", "_law_which"] (pSp ⟨K, w⟩ 2 (len? 2 (mir ["_law_text_here", "_law_which", "_law_found", "_law_kinds", "e"] g_l_read))) := by
  obtain ⟨O_NoName, mO_NoName, zO_NoName⟩ := U.oth ("NoName", false) (by decide)
  obtain ⟨O_NoNumber, mO_NoNumber, zO_NoNumber⟩ := U.oth ("NoNumber", false) (by decide)
  have sc := sc_l_read
  refine fn_pure (k := 5) F sc_l_read (fun cdv A outer s H E B hr => ?_)
  exact (dss_cons (ds_set (i := 2) sc.nd (by rfl) (by first|exact .inl rfl|exact .inr rfl) de_non) (dss_cons (ds_set (i := 3) sc.nd (by rfl) (by first|exact .inl rfl|exact .inr rfl) de_non) (dss_cons (ds_tryL (ca := fun _ => CT) (nm0 := "NoLine") (dss_one (ds_if (dt_cmp (op_eqD hr.units) ok_eq (dr_var 1 (pv 1)) de_int.read (nomark _)) (dss_one (ds_set (i := 2) sc.nd (by rfl) (by first|exact .inl rfl|exact .inr rfl) (DA.frz (da_callF h_rows_in (hr.mono (by decide)) (by rfl) (dns_cons (dn_var 0 (pv 0)) dns_nil))))) (dss_one (ds_if (dt_cmp (op_eqD hr.units) ok_eq (dr_var 1 (pv 1)) de_int.read (nomark _)) (dss_one (ds_set (i := 2) sc.nd (by rfl) (by first|exact .inl rfl|exact .inr rfl) (DA.frz (da_callF h_queue_in (hr.mono (by decide)) (by rfl) (dns_cons (dn_var 0 (pv 0)) dns_nil))))) (dss_one (ds_set (i := 2) sc.nd (by rfl) (by first|exact .inl rfl|exact .inr rfl) (de_callF h_number_in (hr.mono (by decide)) (by rfl) (dns_cons (dn_var 0 (pv 0)) dns_nil)))))))) (fun pn E => (dvs_if (dt_cmp (op_eqD hr.units) ok_eq (dr_var 1 (pv 1)) de_int.read (nomark _)) (dvs_set (i := 2) sc.nd (by rfl) (by first|exact .inl rfl|exact .inr rfl) (dv_call pass_WX hx_rows_in mirY_len (hr.mono (by decide)) (by rfl) (dns_cons (dn_var 0 (pv 0)) dns_nil))) (dvs_if (dt_cmp (op_eqD hr.units) ok_eq (dr_var 1 (pv 1)) de_int.read (nomark _)) (dvs_set (i := 2) sc.nd (by rfl) (by first|exact .inl rfl|exact .inr rfl) (dv_call pass_WX hx_queue_in mirY_len (hr.mono (by decide)) (by rfl) (dns_cons (dn_var 0 (pv 0)) dns_nil))) (dvs_set (i := 2) sc.nd (by rfl) (by first|exact .inl rfl|exact .inr rfl) (dv_call pass_WX hx_number_in mirY_len (hr.mono (by decide)) (by rfl) (dns_cons (dn_var 0 (pv 0)) dns_nil)))))) rfl U.xmH (its_cons (it_isB U.xi U.zT (by rfl) T.b_isinstance (by rfl) U.mT (by rfl) (by rfl)) (its_cons (it_isB U.xi zO_NoName (by rfl) T.b_isinstance (by rfl) mO_NoName (by rfl) (by rfl)) (its_cons (it_isB U.xi zO_NoNumber (by rfl) T.b_isinstance (by rfl) mO_NoNumber (by rfl) (by rfl)) its_nil))) (by rfl) U.mH sc.nd (by rfl) (by rfl) ⟨rfl, rfl⟩ (by rfl) (by first|exact .inl rfl|exact .inr rfl) (by first|exact .inl rfl|exact .inr rfl)) (dss_cons (ds_if (dt_cmp op_isN ok_is (dr_var 3 (pv 3)) (DE.read de_non) (nomark _)) (dss_one (ds_retV 2 (pv 2))) dss_nil) (dss_one (ds_retV 3 (pv 3)))))))
theorem sc_l_right : FnScope ["_law_text_here", "_law_dues", "_law_which", "_law_due", "_law_word"] ["_law_text_here"] (defScope s_l_right) := ⟨rfl, rfl, rfl, by decide +kernel, rfl, by decide +kernel, by decide +kernel⟩
theorem ok_l_right {f : Addr} {fd : FuncData} (T : Txt K mg C) (F : Fun K "_law_right" "_law_right" s_l_right f fd) (h_l_read : Fx P w K mg base "_law_read" 6 2 m_l_read) (h_l_figures : Fx P w K mg base "_law_figures" 1 1 m_l_figures) (h_l_queue : Fx P w K mg base "_law_queue" 2 1 m_l_queue) (h_l_rows : Fx P w K mg base "_law_rows" 2 1 m_l_rows) : FnOk P w K mg base CX0 7 f fd ["_law_text_here"] (pSp ⟨K, w⟩ 1 (len? 1 (mir ["_law_text_here", "_law_dues", "_law_which", "_law_due", "_law_word"] g_l_right))) := by
  have sc := sc_l_right
  refine fn_pure (k := 6) F sc_l_right (fun cdv A outer s H E B hr => ?_)
  exact (dss_cons (ds_set (i := 1) sc.nd (by rfl) (by first|exact .inl rfl|exact .inr rfl) (DA.frz (da_lst (das_cons (de_callF h_l_rows (hr.mono (by decide)) (by rfl) (dns_cons (dn_var 0 (pv 0)) dns_nil)) (das_cons (de_callF h_l_queue (hr.mono (by decide)) (by rfl) (dns_cons (dn_var 0 (pv 0)) dns_nil)) das_nil))))) (dss_cons (ds_for (t := (.name 2)) PassesOwn.never (by rfl) (di_rng1 (by rfl) T.b_range (drs_cons de_int.read drs_nil)) (pg_name (i := 2) sc.nd (by rfl) (by first|exact .inl rfl|exact .inr rfl)) (dss_cons (ds_set (i := 3) sc.nd (by rfl) (by first|exact .inl rfl|exact .inr rfl) (de_item2 (dr_var 1 (pv 1)) (dr_var 2 (pv 2)) (by intro _ _; rfl))) (dss_cons (ds_if (dt_cmp op_isN ok_is (dr_var 3 (pv 3)) (DE.read de_non) (nomark _)) (dss_one (ds_set (i := 3) sc.nd (by rfl) (by first|exact .inl rfl|exact .inr rfl) (DA.frz (da_lst (das_cons de_bl (das_cons de_bl (das_cons de_bl das_nil))))))) dss_nil) (dss_one (ds_if (dt_cmp (op_neD hr.units) ok_eq (DE.read (de_callF h_l_read (hr.mono (by decide)) (by rfl) (dns_cons (dn_var 0 (pv 0)) (dns_cons (dn_var 2 (pv 2)) dns_nil)))) (dr_var 3 (pv 3)) (nomark _)) (dss_one (ds_ret de_bl)) dss_nil))))) (dss_cons (ds_for (t := (.name 4)) PassesOwn.never (by rfl) (di_list hb0 (DE.fix (DA.frz (da_split (dr_var 0 (pv 0)) (drs_cons (DE.read de_str) drs_nil))))) (pg_name (i := 4) sc.nd (by rfl) (by first|exact .inl rfl|exact .inr rfl)) (dss_cons (ds_set (i := 3) sc.nd (by rfl) (by first|exact .inl rfl|exact .inr rfl) (DA.frz (da_lst (das_cons de_bl (das_cons de_bl (das_cons de_bl das_nil)))))) (dss_cons (ds_if (dt_truth (DE.read (de_callF h_l_figures (hr.mono (by decide)) (by rfl) (dns_cons (dn_var 4 (pv 4)) dns_nil))) (by intro _; rfl)) (dss_one (ds_set (i := 3) sc.nd (by rfl) (by first|exact .inl rfl|exact .inr rfl) (de_intT (by rfl) T.b_int (drs_cons (dr_var 4 (pv 4)) drs_nil)))) dss_nil) (dss_one (ds_if (dt_cmp (op_neD hr.units) ok_eq (DE.read (de_callF h_l_read (hr.mono (by decide)) (by rfl) (dns_cons (dn_var 4 (pv 4)) (dns_cons (dn_val de_int) dns_nil)))) (dr_var 3 (pv 3)) (nomark _)) (dss_one (ds_ret de_bl)) dss_nil))))) (dss_one (ds_ret de_bl)))))
theorem sc_law : FnScope ["_law_script", "_law_names_here", "_law_text_here", "_law_k"] ["_law_script"] (defScope s_law) := ⟨rfl, rfl, rfl, by decide +kernel, rfl, by decide +kernel, by decide +kernel⟩
theorem ok_law {f : Addr} {fd : FuncData} (T : Txt K mg C) (F : Fun K "law" "law" s_law f fd) (h_l_right : Fx P w K mg base "_law_right" 7 1 m_l_right) (h_l_spoilt : Fx P w K mg base "_law_spoilt" 1 2 m_l_spoilt) (h_l_cell : Fx P w K mg base "_law_cell" 1 2 m_l_cell) (h_l_text : Fx P w K mg base "_law_text" 3 2 m_l_text) (h_l_names : Fx P w K mg base "_law_names" 1 2 m_l_names) : FnOk P w K mg base CX0 8 f fd ["_law_script"] (pSp ⟨K, w⟩ 1 (len? 1 (mir ["_law_script", "_law_names_here", "_law_text_here", "_law_k"] g_law))) := by
  have sc := sc_law
  refine fn_pure (k := 7) F sc_law (fun cdv A outer s H E B hr => ?_)
  exact (dss_cons (ds_set (i := 1) sc.nd (by rfl) (by first|exact .inl rfl|exact .inr rfl) (DA.frz (da_callF h_l_names (hr.mono (by decide)) (by rfl) (dns_cons (dn_val (de_callF h_l_cell (hr.mono (by decide)) (by rfl) (dns_cons (dn_var 0 (pv 0)) (dns_cons (dn_val de_int) dns_nil)))) (dns_cons (dn_val (de_plus de_int.read (DE.read (de_mod (DE.read (de_callF h_l_cell (hr.mono (by decide)) (by rfl) (dns_cons (dn_var 0 (pv 0)) (dns_cons (dn_val de_int) dns_nil)))) de_int.read)))) dns_nil))))) (dss_cons (ds_set (i := 2) sc.nd (by rfl) (by first|exact .inl rfl|exact .inr rfl) (de_callF h_l_text (hr.mono (by decide)) (by rfl) (dns_cons (dn_var 0 (pv 0)) (dns_cons (dn_var 1 (pv 1)) dns_nil)))) (dss_cons (ds_if (dt_w (dw_or (dt_not (dt_truth (DE.read (de_callF h_l_right (hr.mono (by decide)) (by rfl) (dns_cons (dn_var 2 (pv 2)) dns_nil))) (by intro _; rfl))) (dw_or (dt_not (dt_truth (DE.read (de_callF h_l_right (hr.mono (by decide)) (by rfl) (dns_cons (dn_val de_str) dns_nil))) (by intro _; rfl))) (dw_or1 (dt_not (dt_truth (DE.read (de_callF h_l_right (hr.mono (by decide)) (by rfl) (dns_cons (dn_val de_str) dns_nil))) (by intro _; rfl))))))) (dss_one (ds_ret de_bl)) dss_nil) (dss_cons (ds_for (t := (.name 3)) PassesOwn.never (by rfl) (di_rng2 (by rfl) T.b_range (drs_cons de_int.read (drs_cons (DE.read (de_max (by rfl) (by rfl) T.b_max (drs_cons de_int.read (drs_cons (DE.read (de_min (by rfl) (by rfl) T.b_min (drs_cons (DE.read (de_len (by rfl) T.b_len (drs_cons (dr_var 0 (pv 0)) drs_nil))) (drs_cons de_int.read drs_nil)))) drs_nil)))) drs_nil))) (pg_name (i := 3) sc.nd (by rfl) (by first|exact .inl rfl|exact .inr rfl)) (dss_one (ds_if (dt_not (dt_truth (DE.read (de_callF h_l_right (hr.mono (by decide)) (by rfl) (dns_cons (dn_val (de_callF h_l_spoilt (hr.mono (by decide)) (by rfl) (dns_cons (dn_var 2 (pv 2)) (dns_cons (dn_val (de_callF h_l_cell (hr.mono (by decide)) (by rfl) (dns_cons (dn_var 0 (pv 0)) (dns_cons (dn_var 3 (pv 3)) dns_nil)))) dns_nil)))) dns_nil))) (by intro _; rfl))) (dss_one (ds_ret de_bl)) dss_nil))) (dss_one (ds_ret de_bl))))))
end
end My
namespace My
open PySem PySem.Spec L2 L3 L4 L6 Dv HM QM
open PyProof.Rows hiding St
theorem e_l_cell (ns : List Int) (k : Nat) : m_l_cell [.val (.scr ns), .val (.int k)] = some (.val (.int (ns.getD k 0))) := by
  by_cases h : k < ns.length
  · have e : atI ns (k : Int) = some ns[k] := atI_at k (List.getElem?_eq_getElem h)
    simp [m_l_cell, mir, stE, N_l_cell, g_l_cell, h, e]
  · simp [m_l_cell, mir, stE, N_l_cell, g_l_cell, h]
theorem e_l_stir (a : Int) (k : Int) : ∃ z, m_l_stir [.val (.int a), .val (.int k)] = some (.val (.int z)) := by
  have h1 : ∀ x : Int, -LIM < x % 2147483647 := fun x => by unfold LIM; omega
  have h1' : ∀ x : Int, x % 2147483647 < LIM := fun x => by unfold LIM; omega
  have h2 : ∀ x : Int, -LIM < x % 2147483629 := fun x => by unfold LIM; omega
  have h2' : ∀ x : Int, x % 2147483629 < LIM := fun x => by unfold LIM; omega
  have l1 : -LIM < 69621 := by decide
  have l2 : 69621 < LIM := by decide
  have l3 : -LIM < 16807 := by decide
  have l4 : 16807 < LIM := by decide
  simp [m_l_stir, mir, stE, N_l_stir, g_l_stir, mod_ok, mul_l, h1, h2, h1', h2', l1, l2, l3, l4]
theorem row_loop (X0 X1 X3 : Option En) (b : Int) (hb : 0 < b) (hb2 : b < 1073741824) : ∀ (ks : List Nat) (c : Int) (k0 : Option En) (vs : List Int), vs.length + ks.length <= 1000 -> (∀ v ∈ vs, 0 <= v /\ v < b) ->
    ∃ (c' : Int) (k' : Option En) (vs' : List Int), (∀ v ∈ vs', 0 <= v /\ v < b) /\ vs'.length = vs.length + ks.length /\
      forD (.name 6) b_l_row_0 (ks.map fun (k : Nat) => D.int (0 + (k : Int))) [X0, X1, some (.val (.int b)), X3, some (.val (.int c)), some (.acc (vs.map D.int)), k0]
      = some (.next [X0, X1, some (.val (.int b)), X3, some (.val (.int c')), some (.acc (vs'.map D.int)), k'])
  | [], c, k0, vs, hl, hv => ⟨c, k0, vs, hv, by simp, by simp⟩
  | k :: ks, c, k0, vs, hl, hv => by
    simp only [List.length_cons] at hl
    have ht : (vs.map D.int).length <= TOP := by simp [TOP]; omega
    have ht' : vs.length <= TOP := by simp [TOP]; omega
    obtain ⟨c', k', vs', p1, p2, p3⟩ := row_loop X0 X1 X3 b hb hb2 ks (c / b) (some (.val (.int (0 + (k : Int))))) (vs ++ [c % b]) (by simp; omega) (by
      intro w hw
      rcases List.mem_append.mp hw with h | h
      · exact hv w h
      · rw [List.mem_singleton.mp h]; exact ⟨Int.emod_nonneg _ (by omega), Int.emod_lt_of_pos _ hb⟩)
    refine ⟨c', k', vs', p1, by rw [p2]; simp; omega, ?_⟩
    rw [<- p3]
    simp [b_l_row_0, mod_ok hb, div_ok hb hb2, ht, ht']
theorem row_comp (b c : Int) (hb : 0 < b) : ∀ ks : List Nat, ∃ vs : List Int, (∀ v ∈ vs, 0 <= v /\ v < b) /\ vs.length = ks.length /\
    compD (.name 0) tYes e_l_row_1 [none, some (.val (.int b)), some (.val (.int c))] (ks.map fun (k : Nat) => D.int (0 + (k : Int))) = some (vs.map D.int)
  | [] => ⟨[], by simp, rfl, by simp [compD]⟩
  | k :: ks => by
    obtain ⟨vs, p1, p2, p3⟩ := row_comp b c hb ks
    obtain ⟨z, hz⟩ := e_l_stir c (0 + (k : Int))
    refine ⟨(z / 8 % b) :: vs, ?_, by simp [p2], ?_⟩
    · intro v hv
      rcases List.mem_cons.mp hv with rfl | hv
      · exact ⟨Int.emod_nonneg _ (by omega), Int.emod_lt_of_pos _ hb⟩
      · exact p1 v hv
    · simp at hz
      simp [compD, e_l_row_1, hz, mod_ok hb, div_ok, p3, asgD] at p3 ⊢
      simp [p3]
theorem e_l_row (ns : List Int) (at0 : Nat) (b : Int) (n : Nat) (hb : 0 < b) (hb2 : b < 1073741824) (hn : n <= 900) : ∃ vs : List Int, (∀ v ∈ vs, 0 <= v /\ v < b) /\ vs.length = n /\
    m_l_row [.val (.scr ns), .val (.int at0), .val (.int b), .val (.int n)] = some (.acc (vs.map D.int)) := by
  have e0 := e_l_cell ns at0
  have e00 := e_l_cell ns 0
  have hB : -BIG <= (n : Int) /\ (n : Int) <= BIG := by unfold BIG; omega
  have hs : (0 : Int) <= (at0 : Int) % 8 := by omega
  by_cases q : Builtin.bitAnd (ns.getD 0 0 / 2 ^ ((at0 : Int) % 8).toNat) 1 = 1
  · obtain ⟨vs, p1, p2, p3⟩ := row_comp b (ns.getD at0 0) hb (List.range n)
    refine ⟨vs, p1, by simpa using p2, ?_⟩
    simp at e00 q
    simp only [m_l_row, mir, stE, N_l_row, g_l_row]
    simp [e0, e00, hB, rngD_map, TOP, mod_ok, shr_ok hs, q] at p3 ⊢
    have hn2 : n <= 1000000 := by omega
    simp [p3, hn2]
  · obtain ⟨c', k', vs', p1, p2, p3⟩ := row_loop (some (.val (.scr ns))) (some (.val (.int at0))) (some (.val (.int n))) b hb hb2 (List.range n) (ns.getD at0 0) none [] (by simp; omega) (by simp)
    refine ⟨vs', p1, by simpa using p2, ?_⟩
    simp at e00 q
    simp only [m_l_row, mir, stE, N_l_row, g_l_row]
    simp [e0, e00, hB, rngD_map, TOP, mod_ok, shr_ok hs, q] at p3 ⊢
    simp [p3]
theorem t2 : 2 <= TOP := by decide
def LET : Str := "abcdefghijklmnopqrstuvwxyz"
theorem let_mk : LET = mk (S36.take 26) := by decide +kernel
theorem dig_mk : ("0123456789" : Str) = mk (S36.drop 26) := by decide +kernel
theorem let_item {a : Int} (h1 : 0 <= a) (h2 : a < 26) : fItem (.str LET) (.int a) = some (.str (mk [sg a])) := by
  rw [let_mk, item_mk (by decide) h1 (by simpa [S36] using h2)]
  congr 3
  unfold sg
  have : a.toNat < 26 := by omega
  congr 1
  simp [List.getD_eq_getElem?_getD, List.getElem?_take, this]
theorem let_dig : LET ++ ("0123456789" : Str) = SIGNS := by decide +kernel
theorem let_len : LET.length = 26 := by decide +kernel
theorem dig_len : Str.length ("0123456789" : Str) = 10 := by decide +kernel
def zz (c at0 size k j : Int) : Int :=
  let z1 := c / (64 + 5 * j)
  let z2 := if j = at0 then z1 + k % 26 else z1
  if j = (at0 + 1) % size then z2 + k / 26 else z2
def sgn (c at0 size k j : Int) : Nat := if j = 0 then sg (zz c at0 size k j % 26) else sg (zz c at0 size k j % 36)
theorem sgn_mem (c at0 size k j : Int) : sgn c at0 size k j ∈ S36 := by
  unfold sgn
  split
  · exact sg_mem (by omega) (by omega)
  · exact sg_mem (by omega) (by omega)
theorem names_in (c at0 size k : Int) (hs : 0 < size) (X1 X5 : Option En) : ∀ (js : List Nat) (l : List Nat) (a8 a9 : Option En), (∀ j ∈ js, j < 100) -> l.length + js.length <= 100 -> (∀ d ∈ l, d ∈ S36) ->
    ∃ (b8 b9 : Option En), forD (.name 8) b_l_names_0 (js.map fun (j : Nat) => D.int (0 + (j : Int))) [some (.val (.int c)), X1, some (.val (.str LET)), some (.val (.int size)), some (.val (.int at0)), X5, some (.val (.int k)), some (.val (.str (mk l))), a8, a9]
      = some (.next [some (.val (.int c)), X1, some (.val (.str LET)), some (.val (.int size)), some (.val (.int at0)), X5, some (.val (.int k)), some (.val (.str (mk (l ++ js.map fun (j : Nat) => sgn c at0 size k (0 + (j : Int)))))), b8, b9])
  | [], l, a8, a9, _, _, hl => ⟨a8, a9, by simp⟩
  | j :: js, l, a8, a9, hj, hn, hl => by
    simp only [List.length_cons] at hn
    have hj0 := hj j List.mem_cons_self
    obtain ⟨b8, b9, p2⟩ := names_in c at0 size k hs X1 X5 js (l ++ [sgn c at0 size k (0 + (j : Int))]) (some (.val (.int (0 + (j : Int))))) (some (.val (.int (zz c at0 size k (0 + (j : Int)))))) (fun i hi => hj i (List.mem_cons_of_mem _ hi)) (by simp; omega) (fun d hd => by
      rcases List.mem_append.mp hd with h | h
      · exact hl d h
      · rw [List.mem_singleton.mp h]; exact sgn_mem ..)
    refine ⟨b8, b9, ?_⟩
    rw [show (l ++ (j :: js).map fun (j : Nat) => sgn c at0 size k (0 + (j : Int))) = (l ++ [sgn c at0 size k (0 + (j : Int))]) ++ js.map fun (j : Nat) => sgn c at0 size k (0 + (j : Int)) by simp, <- p2]
    have h64 : (0 : Int) < 64 + 5 * (j : Int) := by omega
    have h64' : (64 : Int) + 5 * (j : Int) < 1073741824 := by omega
    have m1 : -LIM < 5 := by decide
    have m2 : (5 : Int) < LIM := by decide
    have m3 : -LIM < (j : Int) := by unfold LIM; omega
    have m4 : (j : Int) < LIM := by unfold LIM; omega
    have t1 : l.length + 1 <= TOP := by simp [TOP]; omega
    have i26 := let_item (a := zz c at0 size k (j : Int) % 26) (by omega) (by omega)
    have i36 := sg_item (a := zz c at0 size k (j : Int) % 36) (by omega) (by omega)
    have t36 : 26 + 10 <= TOP := by decide
    unfold sgn
    simp only [Int.zero_add] at *
    rcases Classical.propComplete ((j : Int) = at0) with e1 | e1 <;> rcases Classical.propComplete ((j : Int) = (at0 + 1) % size) with e2 | e2 <;> rcases Classical.propComplete (j = 0) with e3 | e3 <;>
      (
       simp only [zz, e1, e2, if_true, if_false, ite_true, ite_false] at i26 i36 ⊢
       simp [-Int.add_emod_emod, -Int.emod_add_emod, b_l_names_0, div_ok h64 h64', mul_l, m1, m2, m3, m4, mod_ok hs, mod_ok, div_ok, e1, e2, e3, i26, i36, mk_len, mk_app, t1, let_dig, let_len, dig_len, t36])
theorem mk_nil : ("" : Str) = mk [] := by decide +kernel
def nmk (c at0 : Int) (sz : Nat) (k : Nat) : Str := mk ((List.range sz).map fun (j : Nat) => sgn c at0 sz (0 + (k : Int)) (0 + (j : Int)))
theorem sg_let {a : Int} (h1 : 0 <= a) (h2 : a < 26) : sg a ∈ S36.take 26 := by
  obtain ⟨n, rfl⟩ : ∃ n : Nat, a = (n : Int) := ⟨a.toNat, by omega⟩
  have hn : n < 26 := by omega
  clear h1 h2
  have : ∀ n : Nat, n < 26 -> sg (n : Int) ∈ S36.take 26 := by decide
  exact this n hn
theorem nmk_name {c at0 : Int} {sz k : Nat} (h : 0 < sz) (h2 : sz <= 8) : NameOk (nmk c at0 sz k) := by
  match sz, h, h2 with
  | n + 1, _, h2 =>
    unfold nmk
    rw [List.range_succ_eq_map, List.map_cons]
    refine ⟨_, _, rfl, ?_, fun d hd => ?_, by simp; omega⟩
    · unfold sgn
      rw [if_pos (by rfl)]
      exact sg_let (by omega) (by omega)
    · obtain ⟨j, _, rfl⟩ := List.mem_map.mp hd
      exact sgn_mem ..
theorem names_out (c at0 : Int) (sz : Nat) (hs : 0 < sz) (hs2 : sz <= 8) (X1 : Option En) : ∀ (ks : List Nat) (acc : List Str) (a6 a7 a8 a9 : Option En), acc.length + ks.length <= 900 ->
    ∃ (b6 b7 b8 b9 : Option En),
      forD (.name 6) b_l_names_1 (ks.map fun (j : Nat) => D.int (0 + (j : Int))) [some (.val (.int c)), X1, some (.val (.str LET)), some (.val (.int sz)), some (.val (.int at0)), some (.acc (acc.map D.str)), a6, a7, a8, a9]
      = some (.next [some (.val (.int c)), X1, some (.val (.str LET)), some (.val (.int sz)), some (.val (.int at0)), some (.acc ((acc ++ ks.map (nmk c at0 sz)).map D.str)), b6, b7, b8, b9])
  | [], acc, a6, a7, a8, a9, _ => ⟨a6, a7, a8, a9, by simp⟩
  | k :: ks, acc, a6, a7, a8, a9, hl => by
    simp only [List.length_cons] at hl
    obtain ⟨b8, b9, p2⟩ := names_in c at0 sz (0 + (k : Int)) (by omega) X1 (some (.acc (acc.map D.str))) (List.range sz) [] a8 a9 (fun j hj => by have := List.mem_range.mp hj; omega) (by simp; omega) (by simp)
    obtain ⟨c6, c7, c8, c9, q3⟩ := names_out c at0 sz hs hs2 X1 ks (acc ++ [nmk c at0 sz k]) (some (.val (.int (0 + (k : Int))))) (some (.val (.str (nmk c at0 sz k)))) b8 b9 (by simp; omega)
    refine ⟨c6, c7, c8, c9, ?_⟩
    rw [show acc ++ (k :: ks).map (nmk c at0 sz) = (acc ++ [nmk c at0 sz k]) ++ ks.map (nmk c at0 sz) by simp, <- q3]
    have hB : -BIG <= (sz : Int) /\ (sz : Int) <= BIG := by unfold BIG; omega
    have hT : acc.length <= TOP := by simp [TOP]; omega
    rw [<- mk_nil, List.nil_append] at p2
    rw [show mk ((List.range sz).map fun (j : Nat) => sgn c at0 sz (0 + (k : Int)) (0 + (j : Int))) = nmk c at0 sz k from rfl] at p2
    simp [rngD_map, TOP] at p2
    simp [b_l_names_1, hB, rngD_map, TOP, p2, hT] at hT ⊢
    simp [p2, hT]
theorem mk_inj {l l' : List Nat} (h : mk l = mk l') : l = l' := by
  have := congrArg Str.cps h
  simpa [mk] using this
theorem map_range_eq {β : Type} {g g' : Nat -> β} {n : Nat} (h : (List.range n).map g = (List.range n).map g') : ∀ j < n, g j = g' j := by
  intro j hj
  have := congrArg (fun l => l[j]?) h
  simpa [hj] using this
theorem sg_zz {z a b : Int} (M : Int) (hM : M = 26 ∨ M = 36) (ha : 0 <= a) (ha2 : a < 26) (hb : 0 <= b) (hb2 : b < 26) (e : sg ((z + a) % M) = sg ((z + b) % M)) : a = b := by
  have := sg_inj (a := (z + a) % M) (b := (z + b) % M) (by rcases hM with rfl | rfl <;> omega) (by rcases hM with rfl | rfl <;> omega) (by rcases hM with rfl | rfl <;> omega) (by rcases hM with rfl | rfl <;> omega) e
  rcases hM with rfl | rfl <;> omega
theorem nmk_inj {c at0 : Int} {sz k k' many : Nat} (h0 : 0 <= at0) (h1 : at0 < sz) (hk : k < many) (hk' : k' < many) (hm : many <= 61) (hs : sz = 1 -> many <= 26) (e : nmk c at0 sz k = nmk c at0 sz k') : k = k' := by
  have key := map_range_eq (mk_inj e)
  simp only [Int.zero_add] at key
  have hsz : (0 : Int) < (sz : Int) := by omega
  have a1 := key at0.toNat (by omega)
  have e1 : ((at0.toNat : Nat) : Int) = at0 := by omega
  rw [e1] at a1
  by_cases h : sz = 1
  · have hm' := hs h
    have h2 : at0 = 0 := by omega
    subst h2
    unfold sgn zz at a1
    have e3 : ((0 : Int) + 1) % (sz : Int) = 0 := by rw [h]; rfl
    simp only [e3, if_true] at a1
    have q1 : (k : Int) / 26 = 0 := by omega
    have q2 : (k' : Int) / 26 = 0 := by omega
    rw [q1, q2, Int.add_zero, Int.add_zero] at a1
    have := sg_zz 26 (.inl rfl) (by omega) (by omega) (by omega) (by omega) a1
    omega
  · have hne : ¬ at0 = (at0 + 1) % (sz : Int) := by
      by_cases hc : at0 + 1 < sz
      · rw [Int.emod_eq_of_lt (by omega) hc]; omega
      · have : at0 + 1 = sz := by omega
        rw [this, Int.emod_self]; omega
    have hge : 0 <= (at0 + 1) % (sz : Int) := Int.emod_nonneg _ (by omega)
    have hlt : (at0 + 1) % (sz : Int) < sz := Int.emod_lt_of_pos _ hsz
    have a2 := key ((at0 + 1) % (sz : Int)).toNat (by omega)
    have e2 : ((((at0 + 1) % (sz : Int)).toNat : Nat) : Int) = (at0 + 1) % (sz : Int) := by omega
    rw [e2] at a2
    have hne' : ¬ (at0 + 1) % (sz : Int) = at0 := fun z => hne z.symm
    unfold sgn zz at a1 a2
    simp only [if_true, if_neg hne] at a1
    simp only [if_true, if_neg hne'] at a2
    have r1 : (k : Int) % 26 = (k' : Int) % 26 := by
      split at a1
      · exact sg_zz 26 (.inl rfl) (by omega) (by omega) (by omega) (by omega) a1
      · exact sg_zz 36 (.inr rfl) (by omega) (by omega) (by omega) (by omega) a1
    have r2 : (k : Int) / 26 = (k' : Int) / 26 := by
      split at a2
      · exact sg_zz 26 (.inl rfl) (by omega) (by omega) (by omega) (by omega) a2
      · exact sg_zz 36 (.inr rfl) (by omega) (by omega) (by omega) (by omega) a2
    omega
theorem nodup_range {α : Type} {g : Nat -> α} {n : Nat} (h : ∀ a b, a < n -> b < n -> g a = g b -> a = b) : ((List.range n).map g).Nodup := by
  have : ∀ l : List Nat, l.Nodup -> (∀ a ∈ l, a < n) -> (l.map g).Nodup := by
    intro l
    induction l with
    | nil => intro _ _; simp
    | cons a l ih =>
      intro nd hl
      have nd' := List.nodup_cons.mp nd
      rw [List.map_cons, List.nodup_cons]
      refine ⟨fun z => ?_, ih nd'.2 fun b hb => hl b (by simp [hb])⟩
      obtain ⟨b, hb, e⟩ := List.mem_map.mp z
      have := h b a (hl b (by simp [hb])) (hl a (by simp)) e
      subst this
      exact nd'.1 hb
  exact this _ List.nodup_range fun a ha => List.mem_range.mp ha
theorem e_l_names (c : Int) (many : Nat) (hm : many <= 61) : ∃ xs : List Str, (∀ x ∈ xs, NameOk x) /\ xs.Nodup /\ xs.length = many /\ m_l_names [.val (.int c), .val (.int many)] = some (.acc (xs.map D.str)) := by
  have hB : -BIG <= (many : Int) /\ (many : Int) <= BIG := by unfold BIG; omega
  obtain ⟨sz, hsz⟩ : ∃ sz : Nat, (if (many : Int) <= 26 then 1 + c % 8 else 2 + c % 7) = (sz : Int) /\ 0 < sz /\ sz <= 8 /\ (sz = 1 -> many <= 26) := by
    refine ⟨(if (many : Int) <= 26 then 1 + c % 8 else 2 + c % 7).toNat, ?_⟩
    split <;> omega
  obtain ⟨h1, h2, h3, h4⟩ := hsz
  have hz : (0 : Int) < (sz : Int) := by omega
  obtain ⟨b6, b7, b8, b9, p3⟩ := names_out c (c / 8 % (sz : Int)) sz h2 h3 (some (.val (.int many))) (List.range many) [] none none none none (by simp; omega)
  refine ⟨(List.range many).map (nmk c (c / 8 % (sz : Int)) sz), fun x hx => ?_, nodup_range fun a b ha hb e => nmk_inj (Int.emod_nonneg _ (by omega)) (Int.emod_lt_of_pos _ hz) ha hb hm h4 e, by simp, ?_⟩
  · obtain ⟨k, _, rfl⟩ := List.mem_map.mp hx
    exact nmk_name h2 h3
  · revert p3
    rw [List.nil_append]
    generalize (List.range many).map (nmk c (c / 8 % (sz : Int)) sz) = xs
    intro p3
    by_cases hq : (many : Int) <= 26
    · rw [if_pos hq] at h1
      simp only [m_l_names, mir, stE, N_l_names, g_l_names]
      have hq' : many <= 26 := by omega
      simp [hB, rngD_map, TOP, LET] at p3 ⊢
      simp [mod_ok, hq, h1, mod_ok hz, div_ok, hB, rngD_map, TOP, p3]
    · rw [if_neg hq] at h1
      have hq' : ¬ many <= 26 := by omega
      simp only [m_l_names, mir, stE, N_l_names, g_l_names]
      simp [hB, rngD_map, TOP, LET] at p3 ⊢
      simp [mod_ok, hq, h1, mod_ok hz, div_ok, hB, rngD_map, TOP, p3]
theorem top_small {n : Nat} (h : n <= 1000) : n <= TOP := Nat.le_trans h (by decide)
theorem lf_len : ("abcdefghijklmnopqrstuvwxyz" : Str).length + ("0123456789" : Str).length <= TOP := by decide +kernel
theorem eq_str {neg : Bool} {x y : Str} (hx : Ok x) (hy : Ok y) : fEq neg (.str x) (.str y) = some (.bl (if neg then !decide (x = y) else decide (x = y))) :=
  fEq_of (lay_str hx) (lay_str hy) (by decide) (by decide) (eqv_str x y)
end My
namespace My
open PySem PySem.Spec L2 L3 L4 L6 Dv HM QM
open PyProof.Rows hiding St
open QX (dg dg_dig dg_ne dg_len dg_zero dg_big dg_small joinL)
abbrev RN := Int × List Str
theorem ml_mk (l : List Nat) : QX.ml l = mk l := rfl
theorem of_list {x : Str} {l : List Nat} (h : x.cps.toList = l) : x = mk l := QX.ml_eq h
theorem empty_mk : Str.empty = mk [] := by decide +kernel
theorem colon_mk : (":" : Str) = mk [58] := by decide +kernel
theorem sp_mk : (" " : Str) = mk [32] := by decide +kernel
theorem none_mk : ("" : Str) = mk [] := by decide +kernel
theorem zero_mk : ("0" : Str) = mk [48] := by decide +kernel
theorem dash_mk : ("-" : Str) = mk [45] := by decide +kernel
theorem semi_mk : ("; " : Str) = mk [59, 32] := by decide +kernel
theorem comma_mk : (", " : Str) = mk [44, 32] := by decide +kernel
theorem num_mk (m : Nat) : numT (m : Int) = mk (dg m) := of_list (PySem.W.KIN.signs_num m)
theorem ok_low {l : List Nat} (h : ∀ d ∈ l, d < 128) : Ok (mk l) := by
  show (mk l).cps.all (· < 0x110000) = true
  rw [Array.all_eq_true']
  intro c hc
  have hc : c ∈ l := by simpa [mk] using hc
  have := h c hc
  simp; omega
theorem dg_low (m : Nat) : ∀ d ∈ dg m, d < 128 := fun d hd => by have := dg_dig m d hd; omega
theorem s36_low : ∀ d ∈ S36, (48 <= d /\ d <= 57) ∨ (97 <= d /\ d <= 122) := by decide
theorem name_list {x : Str} (h : NameOk x) : ∃ l : List Nat, x = mk l /\ l ≠ [] /\ l.length <= 8 /\ (∀ d ∈ l, (48 <= d /\ d <= 57) ∨ (97 <= d /\ d <= 122)) /\ ∃ c, l.head? = some c /\ 97 <= c := by
  obtain ⟨c, cs, rfl, h1, h2, h3⟩ := h
  have hc : ∀ d ∈ S36.take 26, 97 <= d := by decide
  refine ⟨c :: cs, rfl, by simp, by simp; omega, fun d hd => ?_, c, rfl, hc c h1⟩
  rcases List.mem_cons.mp hd with rfl | hd
  · exact s36_low _ (List.mem_of_mem_take h1)
  · exact s36_low _ (h2 d hd)
theorem read_num {m : Nat} (h : m < 1000000) : fIntT [.str (mk (dg m))] = some (.int m) := by
  have hl : (mk (dg m)).length <= 640 := by
    rw [mk_len]
    have := dg_len 5 m (by simpa using h)
    omega
  have e := PySem.W.KIN.num_reads (n := (m : Int)) (by omega) (by omega)
  have e : intText? (mk (dg m)) = some (m : Int) := by rw [<- num_mk]; exact e
  show (if (mk (dg m)).length <= 640 then (intText? (mk (dg m))).map D.int else none) = _
  rw [if_pos hl, e]; rfl
abbrev Low (l : List Nat) : Prop := ∀ d ∈ l, d < 128
def isF (c : Nat) : Bool := decide (48 <= c /\ c <= 57)
def isL (c : Nat) : Bool := decide (97 <= c /\ c <= 122)
theorem occ_fig : ∀ c < 128, (Builtin.Str.occurrences ("0123456789" : Str) (mk [c]) 0 ("0123456789" : Str).length 1).isEmpty = !isF c := by decide +kernel
theorem occ_let : ∀ c < 128, (Builtin.Str.occurrences ("abcdefghijklmnopqrstuvwxyz" : Str) (mk [c]) 0 ("abcdefghijklmnopqrstuvwxyz" : Str).length 1).isEmpty = !isL c := by decide +kernel
theorem occ_sig : ∀ c < 128, (Builtin.Str.occurrences (("abcdefghijklmnopqrstuvwxyz" : Str) ++ ("0123456789" : Str)) (mk [c]) 0 (("abcdefghijklmnopqrstuvwxyz" : Str) ++ ("0123456789" : Str)).length 1).isEmpty = !(isL c || isF c) := by decide +kernel
def figB (l : List Nat) : Bool := decide (1 <= l.length /\ l.length <= 6) && l.all isF && (decide (l = [48]) || !decide (l.head? = some 48))
def namB (l : List Nat) : Bool := decide (1 <= l.length /\ l.length <= 8) && l.head?.any isL && l.all fun c => isL c || isF c
theorem asBs_of {α : Type} (p : α -> Bool) : ∀ (rs : List α), asBs (rs.map fun c => D.bl (p c)) = some (rs.map p)
  | [] => rfl
  | r :: rs => by simp [asBs, asBs_of p rs]
theorem tlF : ("0123456789" : Str).length <= TOP := by decide +kernel
theorem tlL : ("abcdefghijklmnopqrstuvwxyz" : Str).length <= TOP := by decide +kernel
theorem comp_fig : ∀ (l : List Nat), Low l -> compD (.name 0) tYes e_number_in_0 [none] (l.map fun c => D.str (mk [c])) = some (l.map fun c => D.bl (isF c))
  | [], _ => by simp
  | c :: l, h => by
    have ih := comp_fig l fun d hd => h d (by simp [hd])
    have e := occ_fig c (h c (by simp))
    simp only [List.map_cons, ev_compS, ih]
    simp [e_number_in_0, tlF, e]
theorem comp_sig : ∀ (l : List Nat), Low l -> compD (.name 0) tYes e_is_name_0 [none] (l.map fun c => D.str (mk [c])) = some (l.map fun c => D.bl (isL c || isF c))
  | [], _ => by simp
  | c :: l, h => by
    have ih := comp_sig l fun d hd => h d (by simp [hd])
    have e := occ_sig c (h c (by simp))
    simp only [List.map_cons, ev_compS, ih]
    simp [e_is_name_0, lf_len, e]
theorem len_mk {l : List Nat} (h : l.length <= 5000) : fLen [.str (mk l)] = some (.int (l.length : Int)) := by
  show (if (mk l).length <= TOP then some (D.int (mk l).length) else none) = _
  rw [mk_len, if_pos (Nat.le_trans h (by decide))]
theorem item0 {c : Nat} {cs : List Nat} (h : cs.length <= 4000) : fItem (.str (mk (c :: cs))) (.int 0) = some (.str (mk [c])) := by
  have e3 := item_mk (l := c :: cs) (a := 0) (Nat.le_trans (by simp only [List.length_cons]; omega : (c :: cs).length <= 5000) (by decide)) (by omega) (by simp only [List.length_cons]; omega)
  simpa using e3
theorem all_map {α : Type} (p : α -> Bool) (l : List α) : (l.map p).all (fun x => x) = l.all p := by simp [List.all_map, Function.comp_def]
theorem is_nameB {l : List Nat} (h : Low l) (hl : l.length <= 4000) : m_is_name [.val (.str (mk l))] = some (.val (.bl (namB l))) := by
  have ss : subT "str" "str" = some true := by decide
  have l1 := len_mk (l := l) (by omega)
  by_cases hk : 1 <= l.length /\ l.length <= 8
  · obtain ⟨hk1, hk2⟩ := hk
    cases l with
    | nil => simp at hk1
    | cons c cs =>
      have hcs : cs.length <= 7 := by simpa using hk2
      have e1 := comp_sig (c :: cs) h
      have e2 := asBs_of (fun c => isL c || isF c) (c :: cs)
      have e3 := item0 (c := c) (cs := cs) (by omega)
      have e4 := occ_let c (h c (by simp))
      have l4 : cs.length + 1 <= TOP := top_small (by omega)
      rw [<- ch_mk] at e1
      have hb : namB (c :: cs) = (isL c && (c :: cs).all fun c => isL c || isF c) := by
        unfold namB
        rw [decide_eq_true (show 1 <= (c :: cs).length /\ (c :: cs).length <= 8 from ⟨hk1, hk2⟩)]
        simp
      rw [hb]
      have e5 := all_map (fun c => isL c || isF c) (c :: cs)
      generalize hp : ((c :: cs).map fun c => D.bl (isL c || isF c)) = ds at *
      generalize hq : ((c :: cs).map fun c => isL c || isF c) = bs at *
      generalize hz : mk (c :: cs) = z at *
      have lch : (chD z).length = cs.length + 1 := by rw [<- hz, ch_mk]; simp
      have l5 : (1 : Int) <= (cs.length : Int) + 1 := by omega
      have l6 : (cs.length : Int) + 1 <= 8 := by omega
      have l1 : fLen [.str z] = some (.int ((cs.length : Int) + 1)) := by simpa using l1
      rw [<- e5]
      cases q : isL c <;> simp [m_is_name, mir, stE, N_is_name, g_is_name, ss, l1, e3, e4, q, lch, l4, l5, l6, e1, e2]
  · have hb : namB l = false := by unfold namB; rw [decide_eq_false hk]; rfl
    rw [hb]
    by_cases h1 : (1 : Int) <= (l.length : Int)
    · have h2 : ¬ ((l.length : Int) <= 8) := by omega
      simp [m_is_name, mir, stE, N_is_name, g_is_name, ss, l1, h1, h2]
    · simp [m_is_name, mir, stE, N_is_name, g_is_name, ss, l1, h1]
theorem figs_dg : ∀ (n : Nat) (l : List Nat), l.length = n + 1 -> (∀ d ∈ l, 48 <= d /\ d <= 57) -> (l = [48] ∨ l.head? ≠ some 48) -> ∃ m, l = dg m
  | 0, l, hl, hd, _ => by
    match l, hl with
    | [c], _ =>
      have := hd c (by simp)
      refine ⟨c - 48, ?_⟩
      rw [dg_small (by omega)]
      congr 1
      omega
  | n + 1, l, hl, hd, h0 => by
    obtain ⟨l', c, rfl⟩ : ∃ l' c, l = l' ++ [c] := ⟨l.dropLast, l.getLast (by intro z; rw [z] at hl; simp at hl), (List.dropLast_concat_getLast _).symm⟩
    have hl' : l'.length = n + 1 := by simpa using hl
    have hne : l' ≠ [] := by intro z; rw [z] at hl'; simp at hl'
    have hh : l'.head? ≠ some 48 := by
      rcases h0 with z | z
      · have := congrArg List.length z; simp at this; exact absurd this hne
      · intro y
        apply z
        rw [List.head?_append, y]
        rfl
    obtain ⟨m, rfl⟩ := figs_dg n l' hl' (fun d hd' => hd d (by simp [hd'])) (.inr hh)
    have hc := hd c (by simp)
    have hm : m ≠ 0 := by
      rintro rfl
      rw [dg_zero] at hh
      exact hh rfl
    refine ⟨10 * m + (c - 48), ?_⟩
    rw [dg_big (m := 10 * m + (c - 48)) (by omega)]
    have e1 : (10 * m + (c - 48)) / 10 = m := by omega
    have e2 : (10 * m + (c - 48)) % 10 = c - 48 := by omega
    rw [e1, e2]
    congr 2
    omega
theorem dg_lt {m : Nat} (h : (dg m).length <= 6) : m < 1000000 := by
  have key : ∀ (k m : Nat), 10 ^ k <= m -> k + 1 <= (dg m).length := by
    intro k
    induction k with
    | zero => intro m _; have := dg_ne m; cases q : dg m with
      | nil => exact (this q).elim
      | cons _ _ => simp
    | succ k ih =>
      intro m hm
      have h10 : 10 <= m := Nat.le_trans (by have := Nat.pow_le_pow_right (n := 10) (by decide) (show 1 <= k + 1 by omega); simpa using this) hm
      rw [dg_big h10]
      have := ih (m / 10) (by rw [Nat.le_div_iff_mul_le (by decide)]; rw [Nat.pow_succ] at hm; exact hm)
      simp
      omega
  by_cases hm : 10 ^ 6 <= m
  · have := key 6 m hm; omega
  · simpa using hm
theorem isF_iff {c : Nat} : isF c = true ↔ 48 <= c /\ c <= 57 := by simp [isF]
theorem fig_num {l : List Nat} (h : figB l = true) : ∃ m, m < 1000000 /\ l = dg m := by
  unfold figB at h
  simp only [Bool.and_eq_true, decide_eq_true_eq, Bool.or_eq_true, Bool.not_eq_true', decide_eq_false_iff_not] at h
  obtain ⟨⟨⟨h1, h2⟩, h3⟩, h4⟩ := h
  obtain ⟨m, rfl⟩ := figs_dg (l.length - 1) l (by omega) (fun d hd => isF_iff.mp (List.all_eq_true.mp h3 d hd)) h4
  exact ⟨m, dg_lt h2, rfl⟩
@[simp] theorem outO_none : outO none = none := rfl
theorem eq_zero1 {c : Nat} (h : c < 128) : fEq false (.str (mk [c])) (.str "0") = some (.bl (decide (c = 48))) := by
  have e := eq_str (neg := false) (x := mk [c]) (y := "0") (ok_low (by simpa using h)) (by rw [zero_mk]; exact ok_low (by simp))
  rw [e]
  have : (mk [c] = "0") ↔ c = 48 := by
    rw [zero_mk]
    exact ⟨fun z => by simpa using mk_inj z, fun z => by rw [z]⟩
  simp [this]
theorem eq_zero {neg : Bool} {l : List Nat} (h : Low l) : fEq neg (.str (mk l)) (.str "0") = some (.bl (if neg then !decide (l = [48]) else decide (l = [48]))) := by
  have e := eq_str (neg := neg) (x := mk l) (y := "0") (ok_low h) (by rw [zero_mk]; exact ok_low (by simp))
  rw [e]
  have : (mk l = "0") ↔ l = [48] := by
    rw [zero_mk]
    exact ⟨fun z => mk_inj z, fun z => by rw [z]⟩
  simp [this]
theorem number_inB {l : List Nat} (h : Low l) (hl : l.length <= 4000) : (figB l = true -> ∃ m : Nat, fIntT [.str (mk l)] = some (.int m) /\ m_number_in [.val (.str (mk l))] = some (.val (.int m)) /\ mx_number_in [.val (.str (mk l))] = none) /\
    (figB l = false -> m_number_in [.val (.str (mk l))] = none /\ mx_number_in [.val (.str (mk l))] = some (("NoLine", none) : Xv)) := by
  have l1 := len_mk (l := l) (by omega)
  have hx0 : xe_number_in_0 = e_number_in_0 := rfl
  have hx1 : xe_number_in_1 = e_number_in_0 := rfl
  by_cases hk : 1 <= l.length /\ l.length <= 6
  · obtain ⟨hk1, hk2⟩ := hk
    cases l with
    | nil => simp at hk1
    | cons c cs =>
      have hcs : cs.length <= 5 := by simpa using hk2
      have e1 := comp_fig (c :: cs) h
      have e2 := asBs_of isF (c :: cs)
      have e3 := item0 (c := c) (cs := cs) (by omega)
      have l4 : cs.length + 1 <= TOP := top_small (by omega)
      rw [<- ch_mk] at e1
      have q0 := eq_zero1 (h c (by simp))
      have q1 := eq_zero (neg := true) h
      have e5 := all_map isF (c :: cs)
      have hfig : figB (c :: cs) = true -> ∃ m : Nat, fIntT [.str (mk (c :: cs))] = some (.int m) := fun hf => by
        obtain ⟨m, hm, e⟩ := fig_num hf
        exact ⟨m, by rw [e]; exact read_num hm⟩
      have hb : figB (c :: cs) = ((c :: cs).all isF && (decide (c :: cs = [48]) || !decide (c = 48))) := by
        unfold figB
        rw [decide_eq_true (show 1 <= (c :: cs).length /\ (c :: cs).length <= 6 from ⟨hk1, hk2⟩)]
        simp
      rw [hb] at hfig ⊢
      generalize hp : ((c :: cs).map fun c => D.bl (isF c)) = ds at *
      generalize hq : ((c :: cs).map isF) = bs at *
      generalize hz : mk (c :: cs) = z at *
      have lch : (chD z).length = cs.length + 1 := by rw [<- hz, ch_mk]; simp
      have l5 : (1 : Int) <= (cs.length : Int) + 1 := by omega
      have l6 : (cs.length : Int) + 1 <= 6 := by omega
      have l1 : fLen [.str z] = some (.int ((cs.length : Int) + 1)) := by simpa using l1
      rw [<- e5] at hfig ⊢
      cases qa : bs.all (fun x => x)
      · refine ⟨fun z => by simp at z, fun _ => ⟨?_, ?_⟩⟩
        · simp [m_number_in, mir, stE, N_number_in, g_number_in, l1, lch, l4, l5, l6, e1, e2, qa]
        · simp [mx_number_in, mirY, stE, N_number_in, gx_number_in, yAlt, yIf, yRaise0, hx0, hx1, l1, lch, l4, l5, l6, e1, e2, qa]
      · by_cases hc : c = 48
        · by_cases h48 : c :: cs = [48]
          · simp only [decide_eq_true h48] at q1 hfig ⊢
            simp only [decide_eq_true hc] at q0
            rw [qa] at hfig
            obtain ⟨m, hm⟩ := hfig (by simp)
            refine ⟨fun _ => ⟨m, hm, ?_, by simp [mx_number_in, mirY, stE, N_number_in, gx_number_in, yAlt, yIf, ySeq, yNo, yRaise0, hx0, hx1, l1, e3, lch, l4, l5, l6, e1, e2, qa, q0, q1]⟩, fun z => by simp at z⟩
            simp [m_number_in, mir, stE, N_number_in, g_number_in, l1, e3, lch, l4, l5, l6, e1, e2, qa, q0, q1, hm]
          · simp only [decide_eq_false h48] at q1 hfig ⊢
            simp only [decide_eq_true hc] at q0
            refine ⟨fun z => by simp [hc] at z, fun _ => ⟨?_, ?_⟩⟩
            · simp [m_number_in, mir, stE, N_number_in, g_number_in, l1, e3, lch, l4, l5, l6, e1, e2, qa, q0, q1]
            · simp [mx_number_in, mirY, stE, N_number_in, gx_number_in, yAlt, yIf, ySeq, yNo, yRaise0, hx0, hx1, l1, e3, lch, l4, l5, l6, e1, e2, qa, q0, q1]
        · simp only [decide_eq_false hc] at q0 hfig ⊢
          rw [qa] at hfig
          obtain ⟨m, hm⟩ := hfig (by simp)
          refine ⟨fun _ => ⟨m, hm, ?_, by simp [mx_number_in, mirY, stE, N_number_in, gx_number_in, yAlt, yIf, ySeq, yNo, yRaise0, hx0, hx1, l1, e3, lch, l4, l5, l6, e1, e2, qa, q0]⟩, fun z => by simp at z⟩
          simp [m_number_in, mir, stE, N_number_in, g_number_in, l1, e3, lch, l4, l5, l6, e1, e2, qa, q0, hm]
  · have hb : figB l = false := by unfold figB; rw [decide_eq_false hk]; rfl
    rw [hb]
    refine ⟨fun z => by simp at z, fun _ => ?_⟩
    by_cases h1 : (1 : Int) <= (l.length : Int)
    · have h2 : ¬ ((l.length : Int) <= 6) := by omega
      exact ⟨by simp [m_number_in, mir, stE, N_number_in, g_number_in, l1, h1, h2], by simp [mx_number_in, mirY, stE, N_number_in, gx_number_in, yAlt, yIf, yRaise0, l1, h1, h2]⟩
    · exact ⟨by simp [m_number_in, mir, stE, N_number_in, g_number_in, l1, h1], by simp [mx_number_in, mirY, stE, N_number_in, gx_number_in, yAlt, yIf, yRaise0, l1, h1]⟩
theorem name_inB {l : List Nat} (h : Low l) (hl : l.length <= 4000) : (namB l = true -> m_name_in [.val (.str (mk l))] = some (.val (.str (mk l)))) /\
    (namB l = false -> m_name_in [.val (.str (mk l))] = none /\ mx_name_in [.val (.str (mk l))] = some (("NoLine", none) : Xv)) := by
  have e := is_nameB h hl
  refine ⟨fun q => ?_, fun q => ⟨?_, ?_⟩⟩
  · rw [q] at e; simp [m_name_in, mir, stE, N_name_in, g_name_in, e]
  · rw [q] at e; simp [m_name_in, mir, stE, N_name_in, g_name_in, e]
  · rw [q] at e; simp [mx_name_in, mirY, stE, N_name_in, gx_name_in, yIf, yRaise0, e]
theorem fig_loop (X0 : Option En) : ∀ (l : List Nat) (a : Option En), Low l -> (l.all isF = true -> ∃ b, forD (.name 1) b_l_figures_0 (l.map fun c => D.str (mk [c])) [X0, a] = some (.next [X0, b])) /\
    (l.all isF = false -> forD (.name 1) b_l_figures_0 (l.map fun c => D.str (mk [c])) [X0, a] = some (.ret (.val (.bl false))))
  | [], a, _ => ⟨fun _ => ⟨a, by simp [forD]⟩, fun z => by simp at z⟩
  | c :: l, a, h => by
    have ih := fig_loop X0 l (some (.val (.str (mk [c])))) fun d hd => h d (by simp [hd])
    have e := occ_fig c (h c (by simp))
    cases q : isF c
    · refine ⟨fun z => by simp [q] at z, fun _ => ?_⟩
      rw [q] at e
      simp [b_l_figures_0, tlF, e]
    · rw [q] at e
      have step : forD (.name 1) b_l_figures_0 ((c :: l).map fun c => D.str (mk [c])) [X0, a] = forD (.name 1) b_l_figures_0 (l.map fun c => D.str (mk [c])) [X0, some (.val (.str (mk [c])))] := by
        simp [b_l_figures_0, tlF, e]
      rw [step]
      simpa [q] using ih
theorem l_figuresB {l : List Nat} (h : Low l) (hl : l.length <= 4000) : m_l_figures [.val (.str (mk l))] = some (.val (.bl (figB l))) := by
  have l1 := len_mk (l := l) (by omega)
  by_cases hk : 1 <= l.length /\ l.length <= 6
  · obtain ⟨hk1, hk2⟩ := hk
    cases l with
    | nil => simp at hk1
    | cons c cs =>
      have hcs : cs.length <= 5 := by simpa using hk2
      have e3 := item0 (c := c) (cs := cs) (by omega)
      have q0 : fEq true (.str (mk [c])) (.str "0") = some (.bl (!decide (c = 48))) := by
        have := eq_zero (neg := true) (l := [c]) (by intro d hd; rw [List.mem_singleton.mp hd]; exact h c (by simp))
        simpa using this
      have q1 : fEq false (.str (mk (c :: cs))) (.str "0") = some (.bl (decide (c :: cs = [48]))) := by
        have := eq_zero (neg := false) h
        simpa using this
      have hb : figB (c :: cs) = ((c :: cs).all isF && (decide (c :: cs = [48]) || !decide (c = 48))) := by
        unfold figB
        rw [decide_eq_true (show 1 <= (c :: cs).length /\ (c :: cs).length <= 6 from ⟨hk1, hk2⟩)]
        simp
      rw [hb]
      obtain ⟨f1, f2⟩ := fig_loop (some (.val (.str (mk (c :: cs))))) (c :: cs) none h
      rw [<- ch_mk] at f1 f2
      generalize hz : mk (c :: cs) = z at *
      have l5 : ¬ ((cs.length : Int) + 1 < 1) := by omega
      have l6 : ¬ (6 < (cs.length : Int) + 1) := by omega
      have l1 : fLen [.str z] = some (.int ((cs.length : Int) + 1)) := by simpa using l1
      cases qa : (c :: cs).all isF
      · have f2 := f2 qa
        simp [m_l_figures, mir, stE, N_l_figures, g_l_figures, l1, l5, l6, f2]
      · obtain ⟨b, f1⟩ := f1 qa
        cases qb : decide (c :: cs = [48])
        · rw [qb] at q1
          simp [m_l_figures, mir, stE, N_l_figures, g_l_figures, l1, l5, l6, f1, q1, q0, e3]
        · rw [qb] at q1
          simp [m_l_figures, mir, stE, N_l_figures, g_l_figures, l1, l5, l6, f1, q1]
  · have hb : figB l = false := by unfold figB; rw [decide_eq_false hk]; rfl
    rw [hb]
    by_cases h1 : (l.length : Int) < 1
    · simp [m_l_figures, mir, stE, N_l_figures, g_l_figures, l1, h1]
    · have h2 : 6 < (l.length : Int) := by omega
      simp [m_l_figures, mir, stE, N_l_figures, g_l_figures, l1, h1, h2]
def gdF : Nat -> List Nat -> Bool
  | _, [] => true
  | k, c :: l => (isL c || (!decide (k = 0) && isF c)) && gdF (k + 1) l
theorem gdF_all : ∀ (l : List Nat) (k : Nat), gdF (k + 1) l = l.all fun c => isL c || isF c
  | [], _ => rfl
  | c :: l, k => by simp [gdF, gdF_all l (k + 1)]
theorem nam_loop (X0 : Option En) : ∀ (l : List Nat) (k : Nat) (a b : Option En), Low l -> (gdF k l = true -> ∃ a' b', forD (.tup [1, 2]) b_l_name_0 (enumD k (l.map fun c => D.str (mk [c]))) [X0, a, b] = some (.next [X0, a', b'])) /\
    (gdF k l = false -> forD (.tup [1, 2]) b_l_name_0 (enumD k (l.map fun c => D.str (mk [c]))) [X0, a, b] = some (.ret (.val (.bl false))))
  | [], k, a, b, _ => ⟨fun _ => ⟨a, b, by simp [forD, enumD]⟩, fun z => by simp [gdF] at z⟩
  | c :: l, k, a, b, h => by
    have ih := nam_loop X0 l (k + 1) (some (.val (.int k))) (some (.val (.str (mk [c])))) fun d hd => h d (by simp [hd])
    have e := occ_let c (h c (by simp))
    have e' := occ_fig c (h c (by simp))
    have qk : fEq false (.int (k : Int)) (.int 0) = some (.bl (decide ((k : Int) = 0))) := by simp
    cases q : (isL c || (!decide (k = 0) && isF c))
    · refine ⟨fun z => by simp [gdF, q] at z, fun _ => ?_⟩
      have q1 : isL c = false := by cases z : isL c <;> simp [z] at q ⊢
      rw [q1] at e
      by_cases hk : k = 0
      · subst hk
        simp [enumD, b_l_name_0, tlL, e]
      · have q2 : isF c = false := by cases z : isF c <;> simp [z, hk, q1] at q ⊢
        rw [q2] at e'
        have hk' : ¬ ((k : Int) = 0) := by omega
        simp [enumD, b_l_name_0, tlL, tlF, e, e', hk]
    · have step : forD (.tup [1, 2]) b_l_name_0 (enumD k ((c :: l).map fun c => D.str (mk [c]))) [X0, a, b] = forD (.tup [1, 2]) b_l_name_0 (enumD (k + 1) (l.map fun c => D.str (mk [c]))) [X0, some (.val (.int k)), some (.val (.str (mk [c])))] := by
        cases q1 : isL c
        · rw [q1] at e q
          have hk : k ≠ 0 := by rintro rfl; simp at q
          have q2 : isF c = true := by simpa [hk] using q
          rw [q2] at e'
          have hk' : ¬ ((k : Int) = 0) := by omega
          simp [enumD, b_l_name_0, tlL, tlF, e, e', hk]
        · rw [q1] at e
          simp [enumD, b_l_name_0, tlL, e]
      rw [step]
      simpa [gdF, q] using ih
theorem l_nameB {l : List Nat} (h : Low l) (hl : l.length <= 4000) : m_l_name [.val (.str (mk l))] = some (.val (.bl (namB l))) := by
  have l1 := len_mk (l := l) (by omega)
  by_cases hk : 1 <= l.length /\ l.length <= 8
  · obtain ⟨hk1, hk2⟩ := hk
    cases l with
    | nil => simp at hk1
    | cons c cs =>
      have hcs : cs.length <= 7 := by simpa using hk2
      have hb : namB (c :: cs) = gdF 0 (c :: cs) := by
        unfold namB
        rw [decide_eq_true (show 1 <= (c :: cs).length /\ (c :: cs).length <= 8 from ⟨hk1, hk2⟩)]
        simp only [gdF, gdF_all]
        cases q : isL c <;> simp [q]
      rw [hb]
      obtain ⟨f1, f2⟩ := nam_loop (some (.val (.str (mk (c :: cs))))) (c :: cs) 0 none none h
      rw [<- ch_mk] at f1 f2
      generalize hz : mk (c :: cs) = z at *
      have l5 : ¬ ((cs.length : Int) + 1 < 1) := by omega
      have l6 : ¬ (8 < (cs.length : Int) + 1) := by omega
      have l1 : fLen [.str z] = some (.int ((cs.length : Int) + 1)) := by simpa using l1
      cases qa : gdF 0 (c :: cs)
      · have f2 := f2 qa
        simp [m_l_name, mir, stE, N_l_name, g_l_name, gEnS, l1, l5, l6, f2]
      · obtain ⟨a', b', f1⟩ := f1 qa
        simp [m_l_name, mir, stE, N_l_name, g_l_name, gEnS, l1, l5, l6, f1]
  · have hb : namB l = false := by unfold namB; rw [decide_eq_false hk]; rfl
    rw [hb]
    by_cases h1 : (l.length : Int) < 1
    · simp [m_l_name, mir, stE, N_l_name, g_l_name, l1, h1]
    · have h2 : 8 < (l.length : Int) := by omega
      simp [m_l_name, mir, stE, N_l_name, g_l_name, l1, h1, h2]
def wordsL (c : Nat) : List Nat -> List (List Nat)
  | [] => [[]]
  | a :: l => if a = c then [] :: wordsL c l else match wordsL c l with
    | w :: ws => (a :: w) :: ws
    | [] => [[a]]
theorem words_cons (c : Nat) : ∀ l, ∃ w ws, wordsL c l = w :: ws
  | [] => ⟨[], [], rfl⟩
  | a :: l => by
    obtain ⟨w, ws, e⟩ := words_cons c l
    unfold wordsL
    by_cases h : a = c
    · rw [if_pos h]; exact ⟨_, _, rfl⟩
    · rw [if_neg h, e]; exact ⟨_, _, rfl⟩
theorem words_free (c : Nat) : ∀ l, ∀ w ∈ wordsL c l, c ∉ w
  | [], w, h => by simp [wordsL] at h; subst h; simp
  | a :: l, w, h => by
    have ih := words_free c l
    obtain ⟨u, us, e⟩ := words_cons c l
    unfold wordsL at h
    by_cases q : a = c
    · rw [if_pos q] at h
      rcases List.mem_cons.mp h with rfl | h
      · simp
      · exact ih w h
    · rw [if_neg q, e] at h
      rw [e] at ih
      rcases List.mem_cons.mp h with rfl | h
      · intro z
        rcases List.mem_cons.mp z with z | z
        · exact q z.symm
        · exact ih u (by simp) z
      · exact ih w (by simp [h])
theorem words_sub (c : Nat) : ∀ l, ∀ w ∈ wordsL c l, (∀ d ∈ w, d ∈ l) /\ w.length <= l.length
  | [], w, h => by simp [wordsL] at h; subst h; simp
  | a :: l, w, h => by
    have ih := words_sub c l
    obtain ⟨u, us, e⟩ := words_cons c l
    unfold wordsL at h
    by_cases q : a = c
    · rw [if_pos q] at h
      rcases List.mem_cons.mp h with rfl | h
      · simp
      · exact ⟨fun d hd => List.mem_cons_of_mem _ ((ih w h).1 d hd), Nat.le_succ_of_le (ih w h).2⟩
    · rw [if_neg q, e] at h
      rw [e] at ih
      rcases List.mem_cons.mp h with rfl | h
      · refine ⟨fun d hd => ?_, Nat.succ_le_succ (ih u (by simp)).2⟩
        rcases List.mem_cons.mp hd with rfl | hd
        · simp
        · exact List.mem_cons_of_mem _ ((ih u (by simp)).1 d hd)
      · exact ⟨fun d hd => List.mem_cons_of_mem _ ((ih w (by simp [h])).1 d hd), Nat.le_succ_of_le (ih w (by simp [h])).2⟩
theorem words_len (c : Nat) : ∀ l, (wordsL c l).length <= l.length + 1
  | [] => by simp [wordsL]
  | a :: l => by
    have ih := words_len c l
    obtain ⟨u, us, e⟩ := words_cons c l
    unfold wordsL
    by_cases q : a = c
    · rw [if_pos q]; simp; omega
    · rw [if_neg q, e]; rw [e] at ih; simp at ih ⊢; omega
theorem join_cons (c : Nat) (w : List Nat) (ws : List (List Nat)) (a : Nat) : joinL [c] ((a :: w) :: ws) = a :: joinL [c] (w :: ws) := by
  cases ws <;> simp [joinL]
theorem words_join (c : Nat) : ∀ l, joinL [c] (wordsL c l) = l
  | [] => rfl
  | a :: l => by
    have ih := words_join c l
    obtain ⟨u, us, e⟩ := words_cons c l
    unfold wordsL
    by_cases q : a = c
    · rw [if_pos q, e]
      show [] ++ [c] ++ joinL [c] (u :: us) = _
      rw [<- e, ih, q]; rfl
    · rw [if_neg q, e]
      show joinL [c] ((a :: u) :: us) = _
      rw [join_cons, <- e, ih]
theorem words_pre (c : Nat) {w : List Nat} {ws : List (List Nat)} : ∀ (p l : List Nat), c ∉ p -> wordsL c l = w :: ws -> wordsL c (p ++ l) = (p ++ w) :: ws
  | [], l, _, e => e
  | a :: p, l, h, e => by
    have ih := words_pre c p l (fun z => h (by simp [z])) e
    have : a ≠ c := fun z => h (by simp [z])
    show (if a = c then [] :: wordsL c (p ++ l) else match wordsL c (p ++ l) with
      | w :: ws => (a :: w) :: ws
      | [] => [[a]]) = _
    rw [if_neg this, ih]; rfl
theorem split_sp (l : List Nat) : Txt.split (mk l) (" " : Str) = (wordsL 32 l).map mk := by
  obtain ⟨w, ws, e⟩ := words_cons 32 l
  have h := QX.split_join (c := 32) (cs := []) (by simp) (by simp) (ps := wordsL 32 l) (by rw [e]; simp) (words_free 32 l)
  rw [words_join] at h
  rw [sp_mk]
  exact h
theorem fsplit_sp {l : List Nat} (h : l.length <= 4000) : fSplit (.str (mk l)) [.str (" " : Str)] = some (((wordsL 32 l).map mk).map D.str) := by
  have h1 : ((" " : Str).length == 0) = false := by decide +kernel
  have h2 : (mk l).length + 2 <= TOP := Nat.le_trans (by rw [mk_len]; omega : _ <= 5000) (by decide)
  show (if ((" " : Str).length == 0) = false /\ (mk l).length + 2 <= TOP then some ((Txt.split (mk l) (" " : Str)).map D.str) else none) = _
  rw [if_pos ⟨h1, h2⟩, split_sp]
theorem hits_none {c : Nat} (l : List Nat) (k : Nat) (h : c ∉ l) : QX.hitsL [c] k l = [] := by
  have := QX.hits_pass (c := c) (cs := []) l [] k h
  rw [List.append_nil] at this
  rw [this]; rfl
theorem part_none {c : Nat} (l : List Nat) (h : c ∉ l) : Txt.partition (mk l) (mk [c]) = (mk l, Str.empty, Str.empty) := by
  have ho := QX.occ_hits (c := c) (cs := []) (by simp) 1 l
  rw [hits_none l 0 h] at ho
  unfold Txt.partition
  have ho : Builtin.Str.occurrences (mk l) (mk [c]) 0 (mk l).length 1 = [] := by rw [<- ml_mk, <- ml_mk]; rw [ho]; rfl
  rw [ho]
theorem part_at {c : Nat} (a b : List Nat) (h : c ∉ a) : Txt.partition (mk (a ++ c :: b)) (mk [c]) = (mk a, mk [c], mk b) := by
  have := QX.part_first (c := c) a b h
  simpa [ml_mk] using this
theorem cut_at {c : Nat} : ∀ l : List Nat, c ∈ l -> ∃ a b, l = a ++ c :: b /\ c ∉ a
  | [], h => by simp at h
  | x :: l, h => by
    by_cases q : x = c
    · exact ⟨[], l, by rw [q]; rfl, by simp⟩
    · obtain ⟨a, b, e, f⟩ := cut_at l (by rcases List.mem_cons.mp h with z | z; exact absurd z.symm q; exact z)
      exact ⟨x :: a, b, by rw [e]; rfl, fun z => by rcases List.mem_cons.mp z with z | z; exact q z.symm; exact f z⟩
theorem fpart {l : List Nat} {c : Nat} {y : Str} (hy : y = mk [c]) (h : l.length <= 4000) : fPart (.str (mk l)) [.str y] = some (.tup [.str (Txt.partition (mk l) (mk [c])).1, .str (Txt.partition (mk l) (mk [c])).2.1, .str (Txt.partition (mk l) (mk [c])).2.2]) := by
  subst hy
  have h1 : ((mk [c]).length == 0) = false := by rw [mk_len]; rfl
  have h2 : (mk l).length <= TOP := Nat.le_trans (by rw [mk_len]; omega : _ <= 5000) (by decide)
  show (if ((mk [c]).length == 0) = false /\ (mk l).length <= TOP then some (D.tup ((part3 (mk l) (mk [c])).map D.str)) else none) = _
  rw [if_pos ⟨h1, h2⟩]; rfl
theorem slice_last {l : List Nat} : Txt.slice (mk l) (some (-1)) none = mk (l.drop (l.length - 1)) := by
  cases l with
  | nil => decide +kernel
  | cons a l =>
    have e := eq_of_beq (slice_closes_from_neg (x := mk (a :: l)) (i := -1) (a := (l.length : Int)) (b := (l.length : Int) + 1) (by omega) (by rw [mk_len]; simp; omega) (by rw [mk_len]; simp; omega) (by rw [mk_len]; simp))
    rw [e]
    simp [mk]
    rw [List.take_of_length_le (by simp)]
theorem slice_but {l : List Nat} : Txt.slice (mk l) none (some (-1)) = mk l.dropLast := by
  cases l with
  | nil => decide +kernel
  | cons a l =>
    have e := eq_of_beq (slice_closes_to_neg (x := mk (a :: l)) (j := -1) (k := (l.length : Int)) (by omega) (by rw [mk_len]; simp; omega) (by rw [mk_len]; simp; omega))
    rw [e]
    simp [mk, List.dropLast_eq_take]
theorem split_any {l : List Nat} {y p : Str} (h : p ∈ Txt.split (mk l) y) : ∃ q, p = mk q /\ (∀ d ∈ q, d ∈ l) /\ q.length <= l.length := by
  have sub : ∀ i j : Nat, ∃ q, Builtin.Str.strSub (mk l) i j = mk q /\ (∀ d ∈ q, d ∈ l) /\ q.length <= l.length := fun i j => by
    refine ⟨((mk l).cps.extract i j).toList, of_list rfl, fun d hd => ?_, ?_⟩
    · have hd : d ∈ List.take (j - i) (List.drop i (mk l).cps.toList) := by simpa using hd
      have := List.mem_of_mem_drop (List.mem_of_mem_take hd)
      simpa [mk] using this
    · simp [mk]; omega
  unfold Txt.split at h
  split at h
  · rw [List.mem_singleton.mp h]; exact ⟨l, rfl, fun _ z => z, Nat.le_refl _⟩
  · split at h
    · rw [List.mem_singleton.mp h]; exact ⟨l, rfl, fun _ z => z, Nat.le_refl _⟩
    · unfold Builtin.Str.partsBetween at h
      obtain ⟨⟨i, j⟩, _, rfl⟩ := List.mem_map.mp h
      exact sub i j
theorem pieces {l : List Nat} {y : Str} : ∃ ps : List (List Nat), Txt.split (mk l) y = ps.map mk /\ ∀ q ∈ ps, (∀ d ∈ q, d ∈ l) /\ q.length <= l.length := by
  have gen : ∀ xs : List Str, (∀ p ∈ xs, ∃ q, p = mk q /\ (∀ d ∈ q, d ∈ l) /\ q.length <= l.length) -> ∃ ps : List (List Nat), xs = ps.map mk /\ ∀ q ∈ ps, (∀ d ∈ q, d ∈ l) /\ q.length <= l.length := by
    intro xs
    induction xs with
    | nil => intro _; exact ⟨[], rfl, by simp⟩
    | cons x xs ih =>
      intro h
      obtain ⟨q, e, hq⟩ := h x (by simp)
      obtain ⟨ps, e2, hps⟩ := ih fun p hp => h p (by simp [hp])
      refine ⟨q :: ps, by rw [e, e2]; rfl, fun u hu => ?_⟩
      rcases List.mem_cons.mp hu with rfl | hu
      · exact hq
      · exact hps u hu
  exact gen _ fun p hp => split_any hp
def rowB (l : List Nat) : Bool := match wordsL 32 l with
  | w :: ws => decide (w.drop (w.length - 1) = [58]) && figB w.dropLast && ws.all namB
  | [] => false
theorem fig_no {l : List Nat} {c : Nat} (h : c ∈ l) (hc : isF c = false) : figB l = false := by
  unfold figB
  have : l.all isF = false := by
    rw [List.all_eq_false]
    exact ⟨c, h, by simp [hc]⟩
  rw [this]; simp
theorem rowB_none {l : List Nat} (h : 58 ∉ l) : rowB l = false := by
  unfold rowB
  obtain ⟨w, ws, e⟩ := words_cons 32 l
  rw [e]
  have hw := (words_sub 32 l w (by rw [e]; simp)).1
  have : ¬ (w.drop (w.length - 1) = [58]) := fun z => h (hw 58 (List.mem_of_mem_drop (by rw [z]; simp : (58 : Nat) ∈ w.drop (w.length - 1))))
  simp [this]
theorem rowB_at {a b w : List Nat} {ws : List (List Nat)} (h : 58 ∉ a) (e : wordsL 32 b = w :: ws) : rowB (a ++ 58 :: b) = (decide (w = []) && figB a && ws.all namB) := by
  by_cases h32 : 32 ∈ a
  · obtain ⟨a1, a2, rfl, h1⟩ := cut_at a h32
    have hf : figB (a1 ++ 32 :: a2) = false := fig_no (c := 32) (by simp) (by decide)
    rw [hf]
    obtain ⟨u, us, eu⟩ := words_cons 32 (a2 ++ 58 :: b)
    have e1 : wordsL 32 (32 :: (a2 ++ 58 :: b)) = [] :: u :: us := by
      show (if (32 : Nat) = 32 then [] :: wordsL 32 (a2 ++ 58 :: b) else _) = _
      rw [if_pos rfl, eu]
    have e2 := words_pre 32 a1 _ h1 e1
    have e3 : a1 ++ 32 :: a2 ++ 58 :: b = a1 ++ 32 :: (a2 ++ 58 :: b) := by simp
    unfold rowB
    rw [e3, e2]
    have : ¬ ((a1 ++ []).drop ((a1 ++ []).length - 1) = [58]) := fun z => h (by
      have : (58 : Nat) ∈ (a1 ++ []).drop ((a1 ++ []).length - 1) := by rw [z]; simp
      have := List.mem_of_mem_drop this
      simp at this
      simp [this])
    simp only [decide_eq_false this]
    simp
  · have e2 := words_pre 32 (a ++ [58]) b (by simp [h32]) e
    have e3 : a ++ 58 :: b = a ++ [58] ++ b := by simp
    unfold rowB
    rw [e3, e2]
    by_cases hw : w = []
    · subst hw
      simp
    · have hf : figB (a ++ [58] ++ w).dropLast = false := by
        refine fig_no (c := 58) ?_ (by decide)
        rw [List.dropLast_append_of_ne_nil hw]
        simp
      simp only [hf, decide_eq_false hw]
      simp
abbrev NL : Xv := ("NoLine", none)
abbrev sD (l : List Nat) : D := .str (mk l)
theorem map_sD (ls : List (List Nat)) : (ls.map mk).map D.str = ls.map sD := by simp [Function.comp_def]
theorem t5000 {n : Nat} (h : n <= 5000) : n <= TOP := Nat.le_trans h (by decide)
theorem eq_none {neg : Bool} {l : List Nat} (h : Low l) : fEq neg (sD l) (.str "") = some (.bl (if neg then !decide (l = []) else decide (l = []))) := by
  have e := eq_str (neg := neg) (x := mk l) (y := "") (ok_low h) (by rw [none_mk]; exact ok_low (by simp))
  rw [e]
  have : (mk l = "") ↔ l = [] := by
    rw [none_mk]
    exact ⟨fun z => mk_inj z, fun z => by rw [z]⟩
  simp [this]
theorem comp_names : ∀ ws : List (List Nat), (∀ w ∈ ws, Low w /\ w.length <= 4000) ->
    (ws.all namB = true -> compD (.name 0) tYes e_row_in_0 [none] (ws.map sD) = some (ws.map sD)) /\
    (ws.all namB = false -> compD (.name 0) tYes e_row_in_0 [none] (ws.map sD) = none /\ compX (.name 0) tYes e_row_in_0 (yCall mx_name_in (nCons (gn 0) nNil)) [none] (ws.map sD) = some NL)
  | [], _ => ⟨fun _ => by simp, fun z => by simp at z⟩
  | w :: ws, h => by
    obtain ⟨i1, i2⟩ := comp_names ws fun u hu => h u (by simp [hu])
    obtain ⟨h1, h2⟩ := h w (by simp)
    obtain ⟨n1, n2⟩ := name_inB h1 h2
    cases q : namB w
    · obtain ⟨n3, n4⟩ := n2 q
      refine ⟨fun z => by simp [q] at z, fun _ => ⟨?_, ?_⟩⟩
      · simp [e_row_in_0, n3]
      · simp [compX, e_row_in_0, n3, n4, yCall, tYes]
    · have n3 := n1 q
      refine ⟨fun z => ?_, fun z => ?_⟩
      · have := i1 (by simpa [q] using z)
        simp only [List.map_cons, ev_compS, this]
        simp [e_row_in_0, n3]
      · obtain ⟨i3, i4⟩ := i2 (by simpa [q] using z)
        refine ⟨?_, ?_⟩
        · simp only [List.map_cons, ev_compS, i3]
          simp [e_row_in_0, n3]
        · have : compX (.name 0) tYes e_row_in_0 (yCall mx_name_in (nCons (gn 0) nNil)) [none] ((w :: ws).map sD) = compX (.name 0) tYes e_row_in_0 (yCall mx_name_in (nCons (gn 0) nNil)) [none] (ws.map sD) := by
            simp [compX, e_row_in_0, n3, tYes]
          rw [this, i4]
theorem ge_row : (gCall (len? 1 m_name_in) frzO (nCons (gn 0) nNil)) = e_row_in_0 := rfl
theorem row_inB {l : List Nat} (h : Low l) (hl : l.length <= 3900) :
    (rowB l = true -> ∃ (m : Nat) (w : List Nat) (ws : List (List Nat)), wordsL 32 l = w :: ws /\ fIntT [sD w.dropLast] = some (.int m) /\ m_row_in [.val (sD l)] = some (.val (.tup [.int m, .lst (ws.map sD)]))) /\
    (rowB l = false -> m_row_in [.val (sD l)] = none /\ mx_row_in [.val (sD l)] = some NL) := by
  have fp := fpart (l := l) (c := 58) colon_mk (by omega)
  have t2 : 2 <= TOP := by decide
  have t3 : 3 <= TOP := by decide
  have t1 : 1 <= TOP := by decide
  by_cases hc : 58 ∈ l
  · obtain ⟨a, b, rfl, ha⟩ := cut_at l hc
    rw [part_at a b ha] at fp
    obtain ⟨w, ws, e⟩ := words_cons 32 b
    have hb : b.length <= 3900 := by simp at hl; omega
    have hla : a.length <= 3900 := by simp at hl; omega
    have fs := fsplit_sp (l := b) (by omega)
    rw [e, map_sD] at fs
    have hLb : Low b := fun d hd => h d (by simp [hd])
    have hLa : Low a := fun d hd => h d (by simp [hd])
    have hsub := words_sub 32 b
    rw [e] at hsub
    have hws : ∀ u ∈ ws, Low u /\ u.length <= 4000 := fun u hu => ⟨fun d hd => hLb d ((hsub u (by simp [hu])).1 d hd), by have := (hsub u (by simp [hu])).2; omega⟩
    have hw : Low w := fun d hd => hLb d ((hsub w (by simp)).1 d hd)
    have hwl := words_len 32 b
    rw [e] at hwl
    have hT1 : ws.length + 1 <= TOP := t5000 (by simp at hwl; omega)
    have hT0 : ws.length <= TOP := t5000 (by simp at hwl; omega)
    have q0 := eq_none (neg := false) (l := [58]) (by intro d hd; rw [List.mem_singleton.mp hd]; omega)
    have q1 := eq_none (neg := true) hw
    obtain ⟨n1, n2⟩ := number_inB hLa (by omega)
    obtain ⟨c1, c2⟩ := comp_names ws hws
    have hcut : cutD (D.str (mk w) :: ws.map sD) (some 1) none = ws.map sD := by rw [cut_lo (by omega)]; rfl
    rw [rowB_at ha e]
    by_cases hw0 : w = []
    · rw [decide_eq_true hw0] at q1
      cases qf : figB a
      · obtain ⟨n3, n4⟩ := n2 qf
        refine ⟨fun z => by simp at z, fun _ => ⟨?_, ?_⟩⟩
        · simp [m_row_in, mir, stE, N_row_in, g_row_in, -ev_fSplit, fp, fs, q0, q1, hT1, t2, t3, n3]
        · simp [mx_row_in, mirY, stE, N_row_in, gx_row_in, ySeq, yAlt, yIf, yE, yCall, yNo, -ev_fSplit, fp, fs, q0, q1, hT1, t2, t3, n3, n4]
      · obtain ⟨m, hm, n3, n5⟩ := n1 qf
        cases qn : ws.all namB
        · obtain ⟨c3, c4⟩ := c2 qn
          refine ⟨fun z => by simp at z, fun _ => ⟨?_, ?_⟩⟩
          · simp [m_row_in, mir, stE, N_row_in, g_row_in, -ev_fSplit, fp, fs, q0, q1, hT1, hT0, t2, t3, n3, hcut, c3]
          · simp [mx_row_in, mirY, stE, N_row_in, gx_row_in, ySeq, yAlt, yIf, yE, yCall, yNo, yAft, yComp, ge_row, -ev_fSplit, fp, fs, q0, q1, hT1, hT0, t2, t3, n3, n5, hcut, c4]
        · have c3 := c1 qn
          refine ⟨fun _ => ⟨m, a ++ [58], ws, ?_, ?_, ?_⟩, fun z => by simp [hw0] at z⟩
          · have h32 : 32 ∉ a := fun z => by have := fig_no z (by decide); rw [qf] at this; cases this
            have e2 := words_pre 32 (a ++ [58]) b (by simp [h32]) e
            rw [hw0, List.append_nil] at e2
            rw [<- e2]; simp
          · simpa using hm
          · simp [m_row_in, mir, stE, N_row_in, g_row_in, -ev_fSplit, fp, fs, q0, q1, hT1, hT0, t2, t3, n3, hcut, c3]
    · rw [decide_eq_false hw0] at q1 ⊢
      refine ⟨fun z => by simp at z, fun _ => ⟨?_, ?_⟩⟩
      · simp [m_row_in, mir, stE, N_row_in, g_row_in, -ev_fSplit, fp, fs, q0, q1, hT1, t2, t3]
      · simp [mx_row_in, mirY, stE, N_row_in, gx_row_in, ySeq, yAlt, yIf, yE, yCall, yNo, yRaise0, -ev_fSplit, fp, fs, q0, q1, hT1, t2, t3]
  · rw [part_none l hc] at fp
    have fs := fsplit_sp (l := []) (by simp)
    rw [map_sD, <- empty_mk] at fs
    have fs : fSplit (.str Str.empty) [.str (" " : Str)] = some [.str Str.empty] := by rw [fs, empty_mk]; rfl
    have q0 := eq_none (neg := false) (l := []) (by intro d hd; simp at hd)
    have q0 : fEq false (.str Str.empty) (.str "") = some (.bl true) := by rw [empty_mk, q0]; rfl
    rw [rowB_none hc]
    refine ⟨fun z => by simp at z, fun _ => ⟨?_, ?_⟩⟩
    · simp [m_row_in, mir, stE, N_row_in, g_row_in, -ev_fSplit, fp, fs, q0, t1, t2, t3]
    · simp [mx_row_in, mirY, stE, N_row_in, gx_row_in, ySeq, yAlt, yIf, yE, yCall, yNo, yRaise0, -ev_fSplit, fp, fs, q0, t1, t2, t3]
def tikB (l : List Nat) : Bool := match wordsL 32 l with
  | [a, b] => namB a && figB b
  | _ => false
theorem words_one {c : Nat} {l : List Nat} (h : c ∉ l) : wordsL c l = [l] := by
  have := words_pre c l [] h rfl
  simpa using this
theorem words_cut {c : Nat} {a b : List Nat} (h : c ∉ a) : wordsL c (a ++ c :: b) = a :: wordsL c b := by
  have e : wordsL c (c :: b) = [] :: wordsL c b := by
    show (if c = c then [] :: wordsL c b else _) = _
    rw [if_pos rfl]
  have := words_pre c a _ h e
  simpa using this
theorem tikB_none {l : List Nat} (h : 32 ∉ l) : tikB l = false := by unfold tikB; rw [words_one h]
theorem tikB_at {a b : List Nat} (h : 32 ∉ a) : tikB (a ++ 32 :: b) = (namB a && figB b) := by
  unfold tikB
  rw [words_cut h]
  by_cases hb : 32 ∈ b
  · obtain ⟨b1, b2, rfl, h1⟩ := cut_at b hb
    rw [words_cut h1]
    obtain ⟨u, us, e⟩ := words_cons 32 b2
    rw [e]
    rw [fig_no (c := 32) (l := b1 ++ 32 :: b2) (by simp) (by decide)]
    simp
  · rw [words_one hb]
theorem name_mx {l : List Nat} (h : Low l) (hl : l.length <= 4000) (q : namB l = true) : mx_name_in [.val (sD l)] = none := by
  have e := is_nameB h hl
  rw [q] at e
  simp [mx_name_in, mirY, stE, N_name_in, gx_name_in, yIf, yNo, e]
theorem ticket_inB {l : List Nat} (h : Low l) (hl : l.length <= 3900) :
    (tikB l = true -> ∃ (m : Nat) (a b : List Nat), wordsL 32 l = [a, b] /\ fIntT [sD b] = some (.int m) /\ m_ticket_in [.val (sD l)] = some (.val (.tup [sD a, .int m]))) /\
    (tikB l = false -> m_ticket_in [.val (sD l)] = none /\ mx_ticket_in [.val (sD l)] = some NL) := by
  have fp := fpart (l := l) (c := 32) sp_mk (by omega)
  have t2 : 2 <= TOP := by decide
  have t3 : 3 <= TOP := by decide
  by_cases hc : 32 ∈ l
  · obtain ⟨a, b, rfl, ha⟩ := cut_at l hc
    rw [part_at a b ha] at fp
    have hb : b.length <= 3900 := by simp at hl; omega
    have hla : a.length <= 3900 := by simp at hl; omega
    have hLb : Low b := fun d hd => h d (by simp [hd])
    have hLa : Low a := fun d hd => h d (by simp [hd])
    obtain ⟨n1, n2⟩ := name_inB hLa (by omega)
    obtain ⟨m1, m2⟩ := number_inB hLb (by omega)
    rw [tikB_at ha]
    cases qa : namB a
    · obtain ⟨n3, n4⟩ := n2 qa
      refine ⟨fun z => by simp at z, fun _ => ⟨?_, ?_⟩⟩
      · simp [m_ticket_in, mir, stE, N_ticket_in, g_ticket_in, fp, t2, t3, n3]
      · simp [mx_ticket_in, mirY, stE, N_ticket_in, gx_ticket_in, ySeq, yAlt, yE, yCall, fp, t2, t3, n4]
    · have n3 := n1 qa
      have n4 := name_mx hLa (by omega) qa
      cases qb : figB b
      · obtain ⟨m3, m4⟩ := m2 qb
        refine ⟨fun z => by simp at z, fun _ => ⟨?_, ?_⟩⟩
        · simp [m_ticket_in, mir, stE, N_ticket_in, g_ticket_in, fp, t2, t3, n3, m3]
        · simp [mx_ticket_in, mirY, stE, N_ticket_in, gx_ticket_in, ySeq, yAlt, yE, yCall, yAft, fp, t2, t3, n3, n4, m4]
      · obtain ⟨m, hm, m3, m5⟩ := m1 qb
        refine ⟨fun _ => ⟨m, a, b, ?_, hm, ?_⟩, fun z => by simp at z⟩
        · rw [words_cut ha, words_one fun z => by have := fig_no z (by decide); rw [qb] at this; cases this]
        · simp [m_ticket_in, mir, stE, N_ticket_in, g_ticket_in, fp, t2, t3, n3, m3]
  · rw [part_none l hc] at fp
    obtain ⟨n1, n2⟩ := name_inB h (by omega)
    obtain ⟨_, m2⟩ := number_inB (l := []) (by intro d hd; simp at hd) (by simp)
    obtain ⟨m3, m4⟩ := m2 (by decide)
    rw [<- empty_mk] at m3 m4
    rw [tikB_none hc]
    refine ⟨fun z => by simp at z, fun _ => ?_⟩
    cases qa : namB l
    · obtain ⟨n3, n4⟩ := n2 qa
      exact ⟨by simp [m_ticket_in, mir, stE, N_ticket_in, g_ticket_in, fp, t2, t3, n3], by simp [mx_ticket_in, mirY, stE, N_ticket_in, gx_ticket_in, ySeq, yAlt, yE, yCall, fp, t2, t3, n4]⟩
    · have n3 := n1 qa
      have n4 := name_mx h (by omega) qa
      exact ⟨by simp [m_ticket_in, mir, stE, N_ticket_in, g_ticket_in, fp, t2, t3, n3, m3], by simp [mx_ticket_in, mirY, stE, N_ticket_in, gx_ticket_in, ySeq, yAlt, yE, yCall, yAft, fp, t2, t3, n3, n4, m4]⟩
def numI (l : List Nat) : Int := match fIntT [sD l] with
  | some (.int m) => m
  | _ => 0
def rowR (q : List Nat) : RN := match wordsL 32 q with
  | w :: ws => (numI w.dropLast, ws.map mk)
  | [] => (0, [])
def tikR (q : List Nat) : Str × Int := match wordsL 32 q with
  | [a, b] => (mk a, numI b)
  | _ => ("", 0)
theorem num_of {l : List Nat} {m : Int} (h : fIntT [sD l] = some (.int m)) : numI l = m := by unfold numI; rw [h]
theorem row_data {q : List Nat} (h : Low q) (hl : q.length <= 3900) (b : rowB q = true) : m_row_in [.val (sD q)] = some (.val (rnD (rowR q))) := by
  obtain ⟨m, w, ws, e1, e2, e3⟩ := (row_inB h hl).1 b
  rw [e3]
  unfold rowR
  rw [e1]
  show _ = some (En.val (.tup [.int (numI w.dropLast), .lst ((ws.map mk).map D.str)]))
  rw [num_of e2, map_sD]
theorem tik_data {q : List Nat} (h : Low q) (hl : q.length <= 3900) (b : tikB q = true) : m_ticket_in [.val (sD q)] = some (.val (tkD (tikR q))) := by
  obtain ⟨m, a, c, e1, e2, e3⟩ := (ticket_inB h hl).1 b
  rw [e3]
  unfold tikR
  rw [e1]
  show _ = some (En.val (.tup [.str (mk a), .int (numI c)]))
  rw [num_of e2]
theorem comp_gen {m : List En -> Option En} {mx : List En -> Option Xv} {B : List Nat -> Bool} {f : List Nat -> D} : ∀ ps : List (List Nat), (∀ q ∈ ps, B q = true -> m [.val (sD q)] = some (.val (f q))) -> (∀ q ∈ ps, B q = false -> m [.val (sD q)] = none /\ mx [.val (sD q)] = some NL) ->
    (ps.all B = true -> compD (.name 0) tYes (gCall (len? 1 m) frzO (nCons (gn 0) nNil)) [none] (ps.map sD) = some (ps.map f)) /\
    (ps.all B = false -> compD (.name 0) tYes (gCall (len? 1 m) frzO (nCons (gn 0) nNil)) [none] (ps.map sD) = none /\ compX (.name 0) tYes (gCall (len? 1 m) frzO (nCons (gn 0) nNil)) (yCall mx (nCons (gn 0) nNil)) [none] (ps.map sD) = some NL)
  | [], _, _ => ⟨fun _ => by simp, fun z => by simp at z⟩
  | w :: ws, h1, h2 => by
    obtain ⟨i1, i2⟩ := comp_gen ws (fun u hu => h1 u (by simp [hu])) (fun u hu => h2 u (by simp [hu]))
    cases q : B w
    · obtain ⟨n3, n4⟩ := h2 w (by simp) q
      refine ⟨fun z => by simp [q] at z, fun _ => ⟨?_, ?_⟩⟩
      · simp [n3]
      · simp [compX, n3, n4, yCall, tYes]
    · have n3 := h1 w (by simp) q
      refine ⟨fun z => ?_, fun z => ?_⟩
      · have := i1 (by simpa [q] using z)
        simp only [List.map_cons, ev_compS, this]
        simp [n3]
      · obtain ⟨i3, i4⟩ := i2 (by simpa [q] using z)
        refine ⟨?_, ?_⟩
        · simp only [List.map_cons, ev_compS, i3]
          simp [n3]
        · have : compX (.name 0) tYes (gCall (len? 1 m) frzO (nCons (gn 0) nNil)) (yCall mx (nCons (gn 0) nNil)) [none] ((w :: ws).map sD) = compX (.name 0) tYes (gCall (len? 1 m) frzO (nCons (gn 0) nNil)) (yCall mx (nCons (gn 0) nNil)) [none] (ws.map sD) := by
            simp [compX, n3, tYes]
          rw [this, i4]
theorem eq_con {neg : Bool} {l k : List Nat} {y : Str} (hy : y = mk k) (hk : Low k) (h : Low l) : fEq neg (sD l) (.str y) = some (.bl (if neg then !decide (l = k) else decide (l = k))) := by
  subst hy
  have e := eq_str (neg := neg) (x := mk l) (y := mk k) (ok_low h) (ok_low hk)
  rw [e]
  have : (mk l = mk k) ↔ l = k := ⟨fun z => mk_inj z, fun z => by rw [z]⟩
  simp [this]
structure Pcs (l : List Nat) (y : Str) (ps : List (List Nat)) : Prop where
  sp : fSplit (sD l) [.str y] = some (ps.map sD)
  each : ∀ q ∈ ps, Low q /\ q.length <= 3900
  few : ps.length <= 4000
theorem pcs {l : List Nat} (h : Low l) (hl : l.length <= 3900) {y : Str} (hy : (y.length == 0) = false) : ∃ ps, Pcs l y ps := by
  obtain ⟨ps, e, hp⟩ := pieces (l := l) (y := y)
  refine ⟨ps, ?_, fun q hq => ⟨fun d hd => h d ((hp q hq).1 d hd), by have := (hp q hq).2; omega⟩, ?_⟩
  · have h2 : (mk l).length + 2 <= TOP := t5000 (by rw [mk_len]; omega)
    show (if (y.length == 0) = false /\ (mk l).length + 2 <= TOP then some ((Txt.split (mk l) y).map D.str) else none) = _
    rw [if_pos ⟨hy, h2⟩, e, map_sD]
  · have := split_few (mk l) y
    rw [e, List.length_map, mk_len] at this
    omega
theorem rows_inB {l : List Nat} {ps : List (List Nat)} (h : Low l) (P : Pcs l "; " ps) (hd : l ≠ [45]) :
    (ps.all rowB = true -> m_rows_in [.val (sD l)] = some (.acc ((ps.map rowR).map rnD))) /\ (ps.all rowB = false -> m_rows_in [.val (sD l)] = none /\ mx_rows_in [.val (sD l)] = some NL) := by
  have q0 := eq_con (neg := false) (l := l) dash_mk (by intro d hd; rw [List.mem_singleton.mp hd]; omega) h
  rw [decide_eq_false hd] at q0
  have fs := P.sp
  have hT : ps.length <= TOP := t5000 (by have := P.few; omega)
  obtain ⟨c1, c2⟩ := comp_gen (m := m_row_in) (mx := mx_row_in) (B := rowB) (f := fun q => rnD (rowR q)) ps (fun q hq b => row_data (P.each q hq).1 (P.each q hq).2 b) (fun q hq b => (row_inB (P.each q hq).1 (P.each q hq).2).2 b)
  have em : (ps.map rowR).map rnD = ps.map fun q => rnD (rowR q) := by simp
  refine ⟨fun z => ?_, fun z => ⟨?_, ?_⟩⟩
  · have c1 := c1 z
    rw [em]
    simp [m_rows_in, mir, stE, N_rows_in, g_rows_in, e_rows_in_0, -ev_fSplit, fs, q0, hT, c1]
  · obtain ⟨c3, c4⟩ := c2 z
    simp [m_rows_in, mir, stE, N_rows_in, g_rows_in, e_rows_in_0, -ev_fSplit, fs, q0, hT, c3]
  · obtain ⟨c3, c4⟩ := c2 z
    simp [mx_rows_in, mirY, stE, N_rows_in, gx_rows_in, ySeq, yE, yComp, -ev_fSplit, fs, q0, hT, c4]
theorem rows_in0 : m_rows_in [.val (sD [45])] = some (.acc []) := by
  have q0 := eq_con (neg := false) (l := [45]) dash_mk (by intro d hd; rw [List.mem_singleton.mp hd]; omega) (by intro d hd; rw [List.mem_singleton.mp hd]; omega)
  simp [m_rows_in, mir, stE, N_rows_in, g_rows_in, q0]
theorem queue_inB {l : List Nat} {ps : List (List Nat)} (h : Low l) (P : Pcs l ", " ps) (hd : l ≠ [45]) :
    (ps.all tikB = true -> m_queue_in [.val (sD l)] = some (.acc ((ps.map tikR).map tkD))) /\ (ps.all tikB = false -> m_queue_in [.val (sD l)] = none /\ mx_queue_in [.val (sD l)] = some NL) := by
  have q0 := eq_con (neg := false) (l := l) dash_mk (by intro d hd; rw [List.mem_singleton.mp hd]; omega) h
  rw [decide_eq_false hd] at q0
  have fs := P.sp
  have hT : ps.length <= TOP := t5000 (by have := P.few; omega)
  obtain ⟨c1, c2⟩ := comp_gen (m := m_ticket_in) (mx := mx_ticket_in) (B := tikB) (f := fun q => tkD (tikR q)) ps (fun q hq b => tik_data (P.each q hq).1 (P.each q hq).2 b) (fun q hq b => (ticket_inB (P.each q hq).1 (P.each q hq).2).2 b)
  have em : (ps.map tikR).map tkD = ps.map fun q => tkD (tikR q) := by simp
  refine ⟨fun z => ?_, fun z => ⟨?_, ?_⟩⟩
  · have c1 := c1 z
    rw [em]
    simp [m_queue_in, mir, stE, N_queue_in, g_queue_in, e_queue_in_0, -ev_fSplit, fs, q0, hT, c1]
  · obtain ⟨c3, c4⟩ := c2 z
    simp [m_queue_in, mir, stE, N_queue_in, g_queue_in, e_queue_in_0, -ev_fSplit, fs, q0, hT, c3]
  · obtain ⟨c3, c4⟩ := c2 z
    simp [mx_queue_in, mirY, stE, N_queue_in, gx_queue_in, ySeq, yE, yComp, -ev_fSplit, fs, q0, hT, c4]
theorem queue_in0 : m_queue_in [.val (sD [45])] = some (.acc []) := by
  have q0 := eq_con (neg := false) (l := [45]) dash_mk (by intro d hd; rw [List.mem_singleton.mp hd]; omega) (by intro d hd; rw [List.mem_singleton.mp hd]; omega)
  simp [m_queue_in, mir, stE, N_queue_in, g_queue_in, q0]
theorem comp_bad : ∀ ws : List (List Nat), (∀ w ∈ ws, Low w /\ w.length <= 4000) -> compD (.name 0) (gNot (gt (gCall (len? 1 m_l_name) frzO (nCons (gn 0) nNil)))) e_l_rows_0 [none] (ws.map sD) = some ((ws.filter fun w => !namB w).map sD)
  | [], _ => by simp
  | w :: ws, h => by
    have ih := comp_bad ws fun u hu => h u (by simp [hu])
    obtain ⟨h1, h2⟩ := h w (by simp)
    have e := l_nameB h1 h2
    cases q : namB w
    · rw [q] at e
      simp only [List.map_cons, ev_compS, ih]
      simp [e_l_rows_0, e, q]
    · rw [q] at e
      simp only [List.map_cons, ev_compS, ih]
      simp [e_l_rows_0, e, q]
theorem bad_none {ws : List (List Nat)} : (0 < (ws.filter fun w => !namB w).length) ↔ ws.all namB = false := by
  rw [List.length_pos_iff_exists_mem, List.all_eq_false]
  simp [List.mem_filter]
theorem row_step {X0 a2 a3 : Option En} {acc : List D} {q : List Nat} (h : Low q) (hl : q.length <= 3900) (ha : acc.length <= 4500) :
    (rowB q = true -> ∃ b3, b_l_rows_1 [X0, some (.acc acc), some (.val (sD q)), a3] = some (.next [X0, some (.acc (acc ++ [rnD (rowR q)])), some (.val (sD q)), b3])) /\
    (rowB q = false -> b_l_rows_1 [X0, some (.acc acc), some (.val (sD q)), a3] = some (.ret (.val .non))) := by
  obtain ⟨w, ws, e⟩ := words_cons 32 q
  have fs := fsplit_sp (l := q) (by omega)
  rw [e, map_sD] at fs
  have hsub := words_sub 32 q
  rw [e] at hsub
  have hw : Low w := fun d hd => h d ((hsub w (by simp)).1 d hd)
  have hwl : w.length <= 3900 := by have := (hsub w (by simp)).2; omega
  have hws : ∀ u ∈ ws, Low u /\ u.length <= 4000 := fun u hu => ⟨fun d hd => h d ((hsub u (by simp [hu])).1 d hd), by have := (hsub u (by simp [hu])).2; omega⟩
  have hn := words_len 32 q
  rw [e] at hn
  have hT1 : ws.length + 1 <= TOP := t5000 (by simp at hn; omega)
  have hT0 : ws.length <= TOP := t5000 (by simp at hn; omega)
  have hTw : (mk w).length <= TOP := t5000 (by rw [mk_len]; omega)
  have q0 := eq_con (neg := true) (l := w.drop (w.length - 1)) colon_mk (by intro d hd; rw [List.mem_singleton.mp hd]; omega) (fun d hd => hw d (List.mem_of_mem_drop hd))
  have f0 := l_figuresB (l := w.dropLast) (fun d hd => hw d ((List.dropLast_sublist w).subset hd)) (by simp; omega)
  have c0 := comp_bad ws hws
  have hcut : cutD (D.str (mk w) :: ws.map sD) (some 1) none = ws.map sD := by rw [cut_lo (by omega)]; rfl
  have hfl : (ws.filter fun w => !namB w).length <= TOP := Nat.le_trans (List.length_filter_le _ _) hT0
  have hb : rowB q = (decide (w.drop (w.length - 1) = [58]) && figB w.dropLast && ws.all namB) := by unfold rowB; rw [e]
  have hA : acc.length <= TOP := t5000 (by omega)
  have t2 : 2 <= TOP := by decide
  rw [hb]
  have hbad := bad_none (ws := ws)
  generalize hF : (ws.filter fun w => !namB w) = FL at *
  cases qc : decide (w.drop (w.length - 1) = [58])
  · rw [qc] at q0
    refine ⟨fun z => by simp at z, fun _ => ?_⟩
    simp [b_l_rows_1, -ev_fSplit, fs, hT1, hTw, slice_last, q0]
  · rw [qc] at q0
    cases qf : figB w.dropLast
    · rw [qf] at f0
      refine ⟨fun z => by simp at z, fun _ => ?_⟩
      simp [b_l_rows_1, -ev_fSplit, fs, hT1, hTw, slice_last, slice_but, q0, f0]
    · rw [qf] at f0
      have hi : fIntT [sD w.dropLast] = some (.int (numI w.dropLast)) := by
        obtain ⟨m, hm, e⟩ := fig_num qf
        have : fIntT [sD w.dropLast] = some (.int m) := by rw [e]; exact read_num hm
        rw [num_of this, this]
      have hr : rnD (rowR q) = .tup [.int (numI w.dropLast), .lst (ws.map sD)] := by
        unfold rowR
        rw [e]
        show D.tup [.int (numI w.dropLast), .lst ((ws.map mk).map D.str)] = _
        rw [map_sD]
      cases qa : ws.all namB
      · have hp := hbad.mpr qa
        have hp' : (0 : Int) < (FL.length : Int) := by omega
        refine ⟨fun z => by simp at z, fun _ => ?_⟩
        simp [b_l_rows_1, -ev_fSplit, fs, hT1, hT0, hTw, slice_last, slice_but, q0, f0, hcut, c0, hfl, hp]
      · have hp : FL.length = 0 := by
          cases z : FL.length with
          | zero => rfl
          | succ n => have := hbad.mp (by omega); rw [qa] at this; cases this
        have hp' : ¬ ((0 : Int) < (FL.length : Int)) := by omega
        refine ⟨fun _ => ⟨some (.val (.lst (sD w :: ws.map sD))), ?_⟩, fun z => by simp at z⟩
        rw [hr]
        simp [b_l_rows_1, -ev_fSplit, fs, hT1, hT0, hTw, slice_last, slice_but, q0, f0, hcut, c0, hfl, hp, hi, hA, t2]
theorem rows_loop86 (X0 : Option En) : ∀ (ps : List (List Nat)) (acc : List D) (a2 a3 : Option En), (∀ q ∈ ps, Low q /\ q.length <= 3900) -> acc.length + ps.length <= 4500 ->
    (ps.all rowB = true -> ∃ b2 b3, forD (.name 2) b_l_rows_1 (ps.map sD) [X0, some (.acc acc), a2, a3] = some (.next [X0, some (.acc (acc ++ (ps.map rowR).map rnD)), b2, b3])) /\
    (ps.all rowB = false -> forD (.name 2) b_l_rows_1 (ps.map sD) [X0, some (.acc acc), a2, a3] = some (.ret (.val .non)))
  | [], acc, a2, a3, _, _ => ⟨fun _ => ⟨a2, a3, by simp⟩, fun z => by simp at z⟩
  | q :: ps, acc, a2, a3, h, hl => by
    obtain ⟨s1, s2⟩ := row_step (X0 := X0) (a2 := a2) (a3 := a3) (acc := acc) (h q (by simp)).1 (h q (by simp)).2 (by simp at hl; omega)
    cases b : rowB q
    · have s2 := s2 b
      refine ⟨fun z => by simp [b] at z, fun _ => ?_⟩
      simp [s2]
    · obtain ⟨b3, s1⟩ := s1 b
      obtain ⟨i1, i2⟩ := rows_loop86 X0 ps (acc ++ [rnD (rowR q)]) (some (.val (sD q))) b3 (fun u hu => h u (by simp [hu])) (by simp at hl ⊢; omega)
      refine ⟨fun z => ?_, fun z => ?_⟩
      · obtain ⟨c2, c3, i1⟩ := i1 (by simpa [b] using z)
        refine ⟨c2, c3, ?_⟩
        simp [s1, i1]
      · have i2 := i2 (by simpa [b] using z)
        simp [s1, i2]
theorem l_rowsB {l : List Nat} {ps : List (List Nat)} (h : Low l) (P : Pcs l "; " ps) (hd : l ≠ [45]) :
    m_l_rows [.val (sD l)] = some (if ps.all rowB = true then .acc ((ps.map rowR).map rnD) else .val .non) := by
  have q0 := eq_con (neg := false) (l := l) dash_mk (by intro d hd; rw [List.mem_singleton.mp hd]; omega) h
  rw [decide_eq_false hd] at q0
  have fs := P.sp
  obtain ⟨f1, f2⟩ := rows_loop86 (some (.val (sD l))) ps [] none none P.each (by have := P.few; simp; omega)
  cases b : ps.all rowB
  · have f2 := f2 b
    simp [m_l_rows, mir, stE, N_l_rows, g_l_rows, -ev_fSplit, fs, q0, f2]
  · obtain ⟨b2, b3, f1⟩ := f1 b
    rw [List.nil_append] at f1
    generalize (ps.map rowR).map rnD = R at *
    simp [m_l_rows, mir, stE, N_l_rows, g_l_rows, -ev_fSplit, fs, q0, f1]
theorem l_rows0 : m_l_rows [.val (sD [45])] = some (.acc []) := by
  have q0 := eq_con (neg := false) (l := [45]) dash_mk (by intro d hd; rw [List.mem_singleton.mp hd]; omega) (by intro d hd; rw [List.mem_singleton.mp hd]; omega)
  simp [m_l_rows, mir, stE, N_l_rows, g_l_rows, q0]
theorem tik_step {X0 a3 : Option En} {acc : List D} {q : List Nat} (h : Low q) (hl : q.length <= 3900) (ha : acc.length <= 4500) :
    (tikB q = true -> ∃ b3, b_l_queue_0 [X0, some (.acc acc), some (.val (sD q)), a3] = some (.next [X0, some (.acc (acc ++ [tkD (tikR q)])), some (.val (sD q)), b3])) /\
    (tikB q = false -> b_l_queue_0 [X0, some (.acc acc), some (.val (sD q)), a3] = some (.ret (.val .non))) := by
  have fs := fsplit_sp (l := q) (by omega)
  rw [map_sD] at fs
  have hsub := words_sub 32 q
  have hn := words_len 32 q
  have hT : (wordsL 32 q).length <= TOP := t5000 (by omega)
  have hA : acc.length <= TOP := t5000 (by omega)
  have t2 : 2 <= TOP := by decide
  unfold tikB tikR
  match e : wordsL 32 q with
  | [] => obtain ⟨w, ws, z⟩ := words_cons 32 q; rw [z] at e; cases e
  | [a] =>
    rw [e] at fs
    have t1 : 1 <= TOP := by decide
    refine ⟨fun z => by simp at z, fun _ => ?_⟩
    simp [b_l_queue_0, -ev_fSplit, fs, t1]
  | a :: b :: c :: r =>
    rw [e] at fs hT
    have hT : r.length + 1 + 1 + 1 <= TOP := by simpa using hT
    have h3 : ¬ ((r.length : Int) + 1 + 1 + 1 = 2) := by omega
    refine ⟨fun z => by simp at z, fun _ => ?_⟩
    simp [b_l_queue_0, -ev_fSplit, fs, hT, h3]
  | [a, b] =>
    rw [e] at fs hsub
    have la : Low a := fun d hd => h d ((hsub a (by simp)).1 d hd)
    have lb : Low b := fun d hd => h d ((hsub b (by simp)).1 d hd)
    have na := l_nameB la (by have := (hsub a (by simp)).2; omega)
    have fb := l_figuresB lb (by have := (hsub b (by simp)).2; omega)
    cases qa : namB a
    · rw [qa] at na
      refine ⟨fun z => by simp [qa] at z, fun _ => ?_⟩
      simp [b_l_queue_0, -ev_fSplit, fs, t2, na]
    · rw [qa] at na
      cases qb : figB b
      · rw [qb] at fb
        refine ⟨fun z => by simp [qb] at z, fun _ => ?_⟩
        simp [b_l_queue_0, -ev_fSplit, fs, t2, na, fb]
      · rw [qb] at fb
        have hi : fIntT [sD b] = some (.int (numI b)) := by
          obtain ⟨m, hm, e⟩ := fig_num qb
          have : fIntT [sD b] = some (.int m) := by rw [e]; exact read_num hm
          rw [num_of this, this]
        refine ⟨fun _ => ⟨some (.val (.lst [sD a, sD b])), ?_⟩, fun z => by simp [qa, qb] at z⟩
        simp [b_l_queue_0, -ev_fSplit, fs, t2, na, fb, hi, hA, tkD]
theorem queue_loop86 (X0 : Option En) : ∀ (ps : List (List Nat)) (acc : List D) (a2 a3 : Option En), (∀ q ∈ ps, Low q /\ q.length <= 3900) -> acc.length + ps.length <= 4500 ->
    (ps.all tikB = true -> ∃ b2 b3, forD (.name 2) b_l_queue_0 (ps.map sD) [X0, some (.acc acc), a2, a3] = some (.next [X0, some (.acc (acc ++ (ps.map tikR).map tkD)), b2, b3])) /\
    (ps.all tikB = false -> forD (.name 2) b_l_queue_0 (ps.map sD) [X0, some (.acc acc), a2, a3] = some (.ret (.val .non)))
  | [], acc, a2, a3, _, _ => ⟨fun _ => ⟨a2, a3, by simp⟩, fun z => by simp at z⟩
  | q :: ps, acc, a2, a3, h, hl => by
    obtain ⟨s1, s2⟩ := tik_step (X0 := X0) (a3 := a3) (acc := acc) (h q (by simp)).1 (h q (by simp)).2 (by simp at hl; omega)
    cases b : tikB q
    · have s2 := s2 b
      refine ⟨fun z => by simp [b] at z, fun _ => ?_⟩
      simp [s2]
    · obtain ⟨b3, s1⟩ := s1 b
      obtain ⟨i1, i2⟩ := queue_loop86 X0 ps (acc ++ [tkD (tikR q)]) (some (.val (sD q))) b3 (fun u hu => h u (by simp [hu])) (by simp at hl ⊢; omega)
      refine ⟨fun z => ?_, fun z => ?_⟩
      · obtain ⟨c2, c3, i1⟩ := i1 (by simpa [b] using z)
        refine ⟨c2, c3, ?_⟩
        simp [s1, i1]
      · have i2 := i2 (by simpa [b] using z)
        simp [s1, i2]
theorem l_queueB {l : List Nat} {ps : List (List Nat)} (h : Low l) (P : Pcs l ", " ps) (hd : l ≠ [45]) :
    m_l_queue [.val (sD l)] = some (if ps.all tikB = true then .acc ((ps.map tikR).map tkD) else .val .non) := by
  have q0 := eq_con (neg := false) (l := l) dash_mk (by intro d hd; rw [List.mem_singleton.mp hd]; omega) h
  rw [decide_eq_false hd] at q0
  have fs := P.sp
  obtain ⟨f1, f2⟩ := queue_loop86 (some (.val (sD l))) ps [] none none P.each (by have := P.few; simp; omega)
  cases b : ps.all tikB
  · have f2 := f2 b
    simp [m_l_queue, mir, stE, N_l_queue, g_l_queue, -ev_fSplit, fs, q0, f2]
  · obtain ⟨b2, b3, f1⟩ := f1 b
    rw [List.nil_append] at f1
    generalize (ps.map tikR).map tkD = R at *
    simp [m_l_queue, mir, stE, N_l_queue, g_l_queue, -ev_fSplit, fs, q0, f1]
theorem l_queue0 : m_l_queue [.val (sD [45])] = some (.acc []) := by
  have q0 := eq_con (neg := false) (l := [45]) dash_mk (by intro d hd; rw [List.mem_singleton.mp hd]; omega) (by intro d hd; rw [List.mem_singleton.mp hd]; omega)
  simp [m_l_queue, mir, stE, N_l_queue, g_l_queue, q0]
abbrev KI : D := .lst [.bl true, .bl false, .bl false]
theorem its3 : itsD (none : Option D) [It.isx true, It.isx false, It.isx false] = some [.bl true, .bl false, .bl false] := rfl
theorem read_ok0 {l : List Nat} {R : List D} (e : m_rows_in [.val (sD l)] = some (.acc R)) : m_l_read [.val (sD l), .val (.int 0)] = some (.val (.lst R)) := by
  simp [m_l_read, mir, stE, N_l_read, g_l_read, sTryL, e]
theorem read_no0 {l : List Nat} (e : m_rows_in [.val (sD l)] = none) (x : mx_rows_in [.val (sD l)] = some NL) : m_l_read [.val (sD l), .val (.int 0)] = some (.val KI) := by
  have t3 : 3 <= TOP := by decide
  simp [m_l_read, mir, stE, N_l_read, g_l_read, sTryL, e, yIf, yE, yCall, x, its3, t3, unset]
theorem read_ok1 {l : List Nat} {R : List D} (e : m_queue_in [.val (sD l)] = some (.acc R)) : m_l_read [.val (sD l), .val (.int 1)] = some (.val (.lst R)) := by
  simp [m_l_read, mir, stE, N_l_read, g_l_read, sTryL, e]
theorem read_no1 {l : List Nat} (e : m_queue_in [.val (sD l)] = none) (x : mx_queue_in [.val (sD l)] = some NL) : m_l_read [.val (sD l), .val (.int 1)] = some (.val KI) := by
  have t3 : 3 <= TOP := by decide
  simp [m_l_read, mir, stE, N_l_read, g_l_read, sTryL, e, yIf, yE, yCall, x, its3, t3, unset]
theorem read_ok2 {l : List Nat} {m : Int} (e : m_number_in [.val (sD l)] = some (.val (.int m))) : m_l_read [.val (sD l), .val (.int 2)] = some (.val (.int m)) := by
  simp [m_l_read, mir, stE, N_l_read, g_l_read, sTryL, e]
theorem read_no2 {l : List Nat} (e : m_number_in [.val (sD l)] = none) (x : mx_number_in [.val (sD l)] = some NL) : m_l_read [.val (sD l), .val (.int 2)] = some (.val KI) := by
  have t3 : 3 <= TOP := by decide
  simp [m_l_read, mir, stE, N_l_read, g_l_read, sTryL, e, yIf, yE, yCall, x, its3, t3, unset]
theorem seq_next {s1 b : SD} {ρ ρ' : EnvD} {r : Option Fl} (h : s1 ρ = some (.next ρ')) (k : b ρ' = r) : sSeq s1 b ρ = r := by
  simp [h, k]
theorem eq_KI : fEq true KI KI = some (.bl false) := by
  have : Lay 1 KI := by
    have := lay_lst (f := D.bl) (n := 0) (xs := [true, false, false]) (fun x _ => ⟨by cases x <;> rfl, Nat.le_refl _⟩)
    exact this
  have e := fEq_of (neg := true) this this (by decide) (by decide) (b := true) (by decide)
  exact e
theorem eq_rows {rs : List RN} (h : ∀ r ∈ rs, ∀ x ∈ r.2, Ok x) : fEq true (.lst (rs.map rnD)) (.lst (rs.map rnD)) = some (.bl false) := by
  have e := fEq_of (neg := true) (lay_rns h) (lay_rns h) (by decide) (by decide) (eqv_rns rs rs)
  simpa using e
theorem eq_tiks {q : List (Str × Int)} (h : ∀ t ∈ q, Ok t.1) : fEq true (.lst (q.map tkD)) (.lst (q.map tkD)) = some (.bl false) := by
  have e := fEq_of (neg := true) (lay_tks h) (lay_tks h) (by decide) (by decide) (eqv_tks q q)
  simpa using e
theorem rowR_ok {q : List Nat} (h : Low q) : ∀ x ∈ (rowR q).2, Ok x := fun x hx => by
  unfold rowR at hx
  obtain ⟨w, ws, e⟩ := words_cons 32 q
  rw [e] at hx
  obtain ⟨u, hu, rfl⟩ := List.mem_map.mp hx
  exact ok_low fun d hd => h d ((words_sub 32 q u (by rw [e]; simp [hu])).1 d hd)
theorem tikR_ok {q : List Nat} (h : Low q) : Ok (tikR q).1 := by
  unfold tikR
  split
  · rename_i a b e
    exact ok_low fun d hd => h d ((words_sub 32 q a (by rw [e]; simp)).1 d hd)
  · exact by rw [none_mk]; exact ok_low (by simp)
structure Due (o : Option En) (r : Option En) : Prop where
  ex : ∃ V W : D, (o = some (.val V) ∨ ∃ R, o = some (.acc R) /\ V = .lst R) /\ r = some (.val W) /\ ((V = .non /\ W = KI) ∨ (V = W /\ ∃ R, V = .lst R)) /\ fEq true W W = some (.bl false)
theorem due_rows {l : List Nat} (h : Low l) (hl : l.length <= 3900) : Due (m_l_rows [.val (sD l)]) (m_l_read [.val (sD l), .val (.int 0)]) := by
  by_cases hd : l = [45]
  · subst hd
    exact ⟨.lst [], .lst [], .inr ⟨[], l_rows0, rfl⟩, read_ok0 rows_in0, .inr ⟨rfl, [], rfl⟩, eq_rows (rs := []) (by simp)⟩
  · obtain ⟨ps, P⟩ := pcs h hl (y := "; ") (by decide +kernel)
    have e1 := l_rowsB h P hd
    obtain ⟨e2, e3⟩ := rows_inB h P hd
    cases b : ps.all rowB
    · rw [b] at e1
      obtain ⟨e4, e5⟩ := e3 b
      exact ⟨.non, KI, .inl e1, read_no0 e4 e5, .inl ⟨rfl, rfl⟩, eq_KI⟩
    · rw [b, if_pos rfl] at e1
      refine ⟨_, _, .inr ⟨_, e1, rfl⟩, read_ok0 (e2 b), .inr ⟨rfl, _, rfl⟩, eq_rows fun r hr => ?_⟩
      obtain ⟨q, hq, rfl⟩ := List.mem_map.mp hr
      exact rowR_ok (P.each q hq).1
theorem due_queue {l : List Nat} (h : Low l) (hl : l.length <= 3900) : Due (m_l_queue [.val (sD l)]) (m_l_read [.val (sD l), .val (.int 1)]) := by
  by_cases hd : l = [45]
  · subst hd
    exact ⟨.lst [], .lst [], .inr ⟨[], l_queue0, rfl⟩, read_ok1 queue_in0, .inr ⟨rfl, [], rfl⟩, eq_rows (rs := []) (by simp)⟩
  · obtain ⟨ps, P⟩ := pcs h hl (y := ", ") (by decide +kernel)
    have e1 := l_queueB h P hd
    obtain ⟨e2, e3⟩ := queue_inB h P hd
    cases b : ps.all tikB
    · rw [b] at e1
      obtain ⟨e4, e5⟩ := e3 b
      exact ⟨.non, KI, .inl e1, read_no1 e4 e5, .inl ⟨rfl, rfl⟩, eq_KI⟩
    · rw [b, if_pos rfl] at e1
      refine ⟨_, _, .inr ⟨_, e1, rfl⟩, read_ok1 (e2 b), .inr ⟨rfl, _, rfl⟩, eq_tiks fun r hr => ?_⟩
      obtain ⟨q, hq, rfl⟩ := List.mem_map.mp hr
      exact tikR_ok (P.each q hq).1
theorem word_step {X0 X1 X2 a3 : Option En} {w : List Nat} (h : Low w) (hl : w.length <= 3900) : ∃ b3, b_l_right_0 [X0, X1, X2, a3, some (.val (sD w))] = some (.next [X0, X1, X2, b3, some (.val (sD w))]) := by
  have f := l_figuresB h (by omega)
  obtain ⟨n1, n2⟩ := number_inB h (by omega)
  have t3 : 3 <= TOP := by decide
  cases b : figB w
  · rw [b] at f
    obtain ⟨n3, n4⟩ := n2 b
    have r := read_no2 n3 n4
    refine ⟨some (.val KI), ?_⟩
    simp [b_l_right_0, f, r, eq_KI, t3]
  · rw [b] at f
    obtain ⟨m, hm, n3, n4⟩ := n1 b
    have r := read_ok2 n3
    refine ⟨some (.val (.int m)), ?_⟩
    simp [b_l_right_0, f, r, hm, t3]
theorem word_loop {X0 X1 X2 : Option En} : ∀ (ws : List (List Nat)) (a3 a4 : Option En), (∀ w ∈ ws, Low w /\ w.length <= 3900) -> ∃ b3 b4, forD (.name 4) b_l_right_0 (ws.map sD) [X0, X1, X2, a3, a4] = some (.next [X0, X1, X2, b3, b4])
  | [], a3, a4, _ => ⟨a3, a4, by simp⟩
  | w :: ws, a3, a4, h => by
    obtain ⟨b3, e⟩ := word_step (X0 := X0) (X1 := X1) (X2 := X2) (a3 := a3) (h w (by simp)).1 (h w (by simp)).2
    obtain ⟨c3, c4, i⟩ := word_loop (X0 := X0) (X1 := X1) (X2 := X2) ws b3 (some (.val (sD w))) fun u hu => h u (by simp [hu])
    exact ⟨c3, c4, by simp [e, i]⟩
theorem due_step {l : List Nat} {V1 V2 V W : D} {k : Int} {a3 a4 : Option En} (hk : fItem (.lst [V1, V2]) (.int k) = some V) (r : m_l_read [.val (sD l), .val (.int k)] = some (.val W)) (c : (V = .non /\ W = KI) ∨ (V = W /\ ∃ R, V = .lst R)) (e : fEq true W W = some (.bl false)) :
    b_l_right_1 [some (.val (sD l)), some (.val (.lst [V1, V2])), some (.val (.int k)), a3, a4] = some (.next [some (.val (sD l)), some (.val (.lst [V1, V2])), some (.val (.int k)), some (.val W), a4]) := by
  have t3 : 3 <= TOP := by decide
  rcases c with ⟨rfl, rfl⟩ | ⟨rfl, R, rfl⟩
  · simp [b_l_right_1, hk, r, eq_KI, t3]
  · simp [b_l_right_1, hk, r, e, t3]
theorem e_right {l : List Nat} (h : Low l) (hl : l.length <= 3900) : m_l_right [.val (sD l)] = some (.val (.bl true)) := by
  obtain ⟨V1, W1, o1, r1, c1, e1⟩ := (due_rows h hl).ex
  obtain ⟨V2, W2, o2, r2, c2, e2⟩ := (due_queue h hl).ex
  have fs := fsplit_sp (l := l) (by omega)
  rw [map_sD] at fs
  have hws : ∀ w ∈ wordsL 32 l, Low w /\ w.length <= 3900 := fun w hw => ⟨fun d hd => h d ((words_sub 32 l w hw).1 d hd), by have := (words_sub 32 l w hw).2; omega⟩
  have t2 : 2 <= TOP := by decide
  have s1 := due_step (l := l) (V1 := V1) (V2 := V2) (k := 0) (a3 := none) (a4 := none) (by simp [t2]) r1 c1 e1
  have s2 := due_step (l := l) (V1 := V1) (V2 := V2) (k := 1) (a3 := some (.val W1)) (a4 := none) (by simp [t2]) r2 c2 e2
  obtain ⟨b3, b4, lw⟩ := word_loop (X0 := some (.val (sD l))) (X1 := some (.val (.lst [V1, V2]))) (X2 := some (.val (.int 1))) (wordsL 32 l) (some (.val W2)) none hws
  have f1 : (gCall (len? 1 m_l_rows) frzO (nCons (gn 0) nNil)) [some (.val (sD l)), none, none, none, none] = some V1 := by
    rcases o1 with o | ⟨R, o, rfl⟩ <;> simp [o]
  have f2 : (gCall (len? 1 m_l_queue) frzO (nCons (gn 0) nNil)) [some (.val (sD l)), none, none, none, none] = some V2 := by
    rcases o2 with o | ⟨R, o, rfl⟩ <;> simp [o]
  have st : (sSet 1 (gFz (gLst (gCons' (gCall (len? 1 m_l_rows) frzO (nCons (gn 0) nNil)) (gCons' (gCall (len? 1 m_l_queue) frzO (nCons (gn 0) nNil)) gNil))))) [some (.val (sD l)), none, none, none, none] = some (.next [some (.val (sD l)), some (.val (.lst [V1, V2])), none, none, none]) := by
    generalize gCall (len? 1 m_l_rows) frzO (nCons (gn 0) nNil) = G1 at *
    generalize gCall (len? 1 m_l_queue) frzO (nCons (gn 0) nNil) = G2 at *
    simp [f1, f2, t2]
  have lf1 : (sFor (.name 2) (gR1 (gCons' (gc (.int 2)) gNil)) b_l_right_1) [some (.val (sD l)), some (.val (.lst [V1, V2])), none, none, none] = some (.next [some (.val (sD l)), some (.val (.lst [V1, V2])), some (.val (.int 1)), some (.val W2), none]) := by
    generalize hB : b_l_right_1 = BB at *
    have rg : rngD 0 2 = [.int 0, .int 1] := rfl
    have big : -BIG <= 2 /\ 2 <= BIG := by decide
    simp [rg, big, s1, s2]
  have lf2 : (sFor (.name 4) (gIt (gFz (gSML fSplit (gr 0) (gCons' (gc (.str " ")) gNil)))) b_l_right_0) [some (.val (sD l)), some (.val (.lst [V1, V2])), some (.val (.int 1)), some (.val W2), none] = some (.next [some (.val (sD l)), some (.val (.lst [V1, V2])), some (.val (.int 1)), b3, b4]) := by
    simp [-ev_fSplit, fs, lw]
  have tot : g_l_right [some (.val (sD l)), none, none, none, none] = some (.ret (.val (.bl true))) := seq_next st (seq_next lf1 (seq_next lf2 rfl))
  show outO (g_l_right [some (.val (sD l)), none, none, none, none]) = _
  rw [tot]; rfl
theorem flat_len {ls : List (List Nat)} {b : Nat} (h : ∀ l ∈ ls, l.length <= b) : ls.flatten.length <= ls.length * b := by
  induction ls with
  | nil => simp
  | cons l ls ih =>
    have := ih fun u hu => h u (by simp [hu])
    have h1 := h l (by simp)
    simp only [List.flatten_cons, List.length_append, List.length_cons, Nat.succ_mul]
    omega
theorem sum_mk (ls : List (List Nat)) : ((ls.map mk).map (·.length)).sum = ls.flatten.length := by
  induction ls with
  | nil => rfl
  | cons l ls ih => simp only [List.map_cons, List.sum_cons, ih, mk_len, List.flatten_cons, List.length_append]
theorem join_any (sep : List Nat) (ls : List (List Nat)) : Txt.join (mk sep) (ls.map mk) = mk (joinL sep ls) := by
  show Builtin.Str.glued (mk sep) (ls.map mk) = _
  rw [StrLaws.glued_eq_join]
  exact QX.join_ml sep ls
theorem join_len (sep : List Nat) : ∀ ls : List (List Nat), (joinL sep ls).length <= ls.flatten.length + ls.length * sep.length
  | [] => by simp [joinL]
  | [p] => by simp [joinL]
  | p :: q :: ps => by
    have ih := join_len sep (q :: ps)
    show (p ++ sep ++ joinL sep (q :: ps)).length <= _
    simp only [List.length_append, List.flatten_cons, List.length_cons] at ih ⊢
    rw [Nat.succ_mul (ps.length + 1) sep.length]
    omega
theorem join_low {sep : List Nat} (hs : Low sep) : ∀ ls : List (List Nat), (∀ l ∈ ls, Low l) -> Low (joinL sep ls)
  | [], _ => by intro d hd; simp [joinL] at hd
  | [p], h => h p (by simp)
  | p :: q :: ps, h => by
    have ih := join_low hs (q :: ps) fun l hl => h l (by simp at hl ⊢; exact .inr hl)
    intro d hd
    have hd : d ∈ p ++ sep ++ joinL sep (q :: ps) := hd
    rcases List.mem_append.mp hd with hd | hd
    · rcases List.mem_append.mp hd with hd | hd
      · exact h p (by simp) d hd
      · exact hs d hd
    · exact ih d hd
theorem join_ev {sep : List Nat} {y : Str} (hy : y = mk sep) {ls : List (List Nat)} (h : ls.flatten.length + ls.length * sep.length <= 5000) : fJoin (.str y) [.lst (ls.map sD)] = some (sD (joinL sep ls)) := by
  subst hy
  rw [<- map_sD, ev_fJoin, asSs_map, Option.bind_some, sum_mk, List.length_map, mk_len, if_pos (t5000 h), join_any]
theorem p6 : fPow (.int 10) (.int 6) = some (.int 1000000) := by rfl
theorem p7 : fPow (.int 10) (.int 7) = some (.int 10000000) := by rfl
theorem p9 : fPow (.int 10) (.int 9) = some (.int 1000000000) := by rfl
theorem name_low' {x : Str} (h : NameOk x) : ∃ l, x = mk l /\ Low l /\ l.length <= 8 := by
  obtain ⟨l, e, _, h2, h3, _⟩ := name_list h
  exact ⟨l, e, fun d hd => by have := h3 d hd; omega, h2⟩
theorem rep_flat (k : Nat) (nl : List Nat) : (List.replicate k [sD nl]).flatten = (List.replicate k nl).map sD := by
  induction k with
  | zero => rfl
  | succ k ih => simp only [List.replicate_succ, List.flatten_cons, ih, List.map_cons]; rfl
theorem text_step {ns : List Int} {xs : List Str} (hx : ∀ x ∈ xs, NameOk x) (hne : 0 < xs.length) (hxl : xs.length <= 10) {v : Int} (hv : 0 <= v) {acc : List (List Nat)} (ha : acc.length <= 100) {X2 a5 a6 : Option En} :
    ∃ q, Low q /\ q.length <= 60 /\ ∃ b5 b6, b_l_text_0 [some (.val (.scr ns)), some (.val (.lst (xs.map D.str))), X2, some (.acc (acc.map sD)), some (.val (.int v)), a5, a6] = some (.next [some (.val (.scr ns)), some (.val (.lst (xs.map D.str))), X2, some (.acc ((acc ++ [q]).map sD)), some (.val (.int v)), b5, b6]) := by
  have hpos : (0 : Int) < (xs.length : Int) := by omega
  obtain ⟨n, en1, en2⟩ := atI_pos (xs := xs) (a := v / 1000000 % (xs.length : Int)) (Int.emod_nonneg _ (by omega)) (Int.emod_lt_of_pos _ hpos)
  have hn : n ∈ xs := atI_mem en1
  have eat : atI (xs.map D.str) (v / 1000000 % (xs.length : Int)) = some (.str n) := by rw [atI_map, en1]; rfl
  obtain ⟨nl, rfl, nlow, nlen⟩ := name_low' (hx n hn)
  obtain ⟨m, hm⟩ : ∃ m : Nat, v % 1000000 = (m : Int) := ⟨(v % 1000000).toNat, by omega⟩
  have hm6 : m < 1000000 := by omega
  have hd := dg_len 5 m (by simpa using hm6)
  have hf : m < FEW := by unfold FEW; omega
  obtain ⟨k, hk⟩ : ∃ k : Nat, v / 10000000 % 3 = (k : Int) := ⟨(v / 10000000 % 3).toNat, by omega⟩
  have hk3 : k <= 2 := by omega
  have hT : acc.length <= TOP := top_small (by omega)
  have hTx : xs.length <= TOP := top_small (by omega)
  have t1 : 1 <= TOP := by decide
  have ec : m_l_cell [.val (.scr ns), .val (.int 3)] = some (.val (.int (ns.getD 3 0))) := e_l_cell ns 3
  have dlow := dg_low m
  have e0 : numT (m : Int) ++ (":" : Str) = mk (dg m ++ [58]) := by rw [num_mk, colon_mk, mk_app]
  have e1 : mk nl ++ (" " : Str) ++ numT (m : Int) = mk (nl ++ [32] ++ dg m) := by rw [num_mk, sp_mk, mk_app, mk_app]
  have e1' : mk nl ++ (" " : Str) = mk (nl ++ [32]) := by rw [sp_mk, mk_app]
  have e1'' : mk (nl ++ [32]) ++ numT (m : Int) = mk (nl ++ [32] ++ dg m) := by rw [num_mk, mk_app]
  have l0 : (numT (m : Int)).length + (":" : Str).length <= TOP := by rw [num_mk, mk_len]; exact top_small (by have : (":" : Str).length = 1 := (by decide +kernel); omega)
  have l1 : (mk nl).length + (" " : Str).length <= TOP := by rw [mk_len]; exact top_small (by have : (" " : Str).length = 1 := (by decide +kernel); omega)
  have l2 : (mk (nl ++ [32])).length + (numT (m : Int)).length <= TOP := by rw [num_mk, mk_len, mk_len]; exact top_small (by simp; omega)
  have hrep := rep_flat k nl
  have hk1 : k <= 100000 := by omega
  have hk2 : k <= TOP := top_small (by omega)
  have hk4 : 1 + k <= TOP := top_small (by omega)
  generalize ns.getD 3 0 = tt at ec
  by_cases hc : tt / 5 % 2 = 0
  · refine ⟨joinL [32] ((dg m ++ [58]) :: List.replicate k nl), join_low (by intro d hd; rw [List.mem_singleton.mp hd]; omega) _ ?_, ?_, ?_⟩
    · intro l hl
      rcases List.mem_cons.mp hl with rfl | hl
      · intro d hd
        rcases List.mem_append.mp hd with hd | hd
        · exact dlow d hd
        · rw [List.mem_singleton.mp hd]; omega
      · rw [(List.mem_replicate.mp hl).2]; exact nlow
    · have h1 := join_len [32] ((dg m ++ [58]) :: List.replicate k nl)
      have h2 := flat_len (ls := List.replicate k nl) (b := 8) fun l hl => by rw [(List.mem_replicate.mp hl).2]; exact nlen
      simp only [List.flatten_cons, List.length_append, List.length_cons, List.length_replicate, List.length_nil] at h1 h2
      omega
    · have hj := join_ev (y := " ") sp_mk (ls := (dg m ++ [58]) :: List.replicate k nl) (by
        have h2 := flat_len (ls := List.replicate k nl) (b := 8) fun l hl => by rw [(List.mem_replicate.mp hl).2]; exact nlen
        simp only [List.flatten_cons, List.length_append, List.length_cons, List.length_replicate, List.length_nil] at h2 ⊢
        omega)
      simp only [List.map_cons] at hj
      generalize hR : (List.replicate k nl).map sD = RR at *
      have hRl : RR.length = k := by rw [<- hR]; simp
      refine ⟨some (.val (sD nl)), some (.val (.lst RR)), ?_⟩
      simp [b_l_text_0, -ev_fJoin, p6, p7, div_ok, mod_ok, hpos, hne, eat, hTx, hT, hm, hk, hk1, hk2, hk4, hrep, ec, hc, hf, l0, e0, hj, t1, hRl]
  · refine ⟨nl ++ [32] ++ dg m, ?_, by simp; omega, ?_⟩
    · intro d hd
      rcases List.mem_append.mp hd with hd | hd
      · rcases List.mem_append.mp hd with hd | hd
        · exact nlow d hd
        · rw [List.mem_singleton.mp hd]; omega
      · exact dlow d hd
    · generalize hR : (List.replicate k nl).map sD = RR at *
      refine ⟨some (.val (sD nl)), some (.val (.lst RR)), ?_⟩
      simp [b_l_text_0, -ev_fJoin, p6, p7, div_ok, mod_ok, hpos, hne, eat, hTx, hT, hm, hk, hk1, hk2, hrep, ec, hc, hf, l1, l2, e1', e1'', t1]
theorem text_loop {ns : List Int} {xs : List Str} (hx : ∀ x ∈ xs, NameOk x) (hne : 0 < xs.length) (hxl : xs.length <= 10) {X2 : Option En} : ∀ (vs : List Int) (acc : List (List Nat)) (a4 a5 a6 : Option En), (∀ v ∈ vs, 0 <= v) -> acc.length + vs.length <= 100 -> (∀ q ∈ acc, Low q /\ q.length <= 60) ->
    ∃ (acc' : List (List Nat)) (b4 b5 b6 : Option En), (∀ q ∈ acc', Low q /\ q.length <= 60) /\ acc'.length = acc.length + vs.length /\
    forD (.name 4) b_l_text_0 (vs.map D.int) [some (.val (.scr ns)), some (.val (.lst (xs.map D.str))), X2, some (.acc (acc.map sD)), a4, a5, a6] = some (.next [some (.val (.scr ns)), some (.val (.lst (xs.map D.str))), X2, some (.acc (acc'.map sD)), b4, b5, b6])
  | [], acc, a4, a5, a6, _, _, h => ⟨acc, a4, a5, a6, h, by simp, by simp⟩
  | v :: vs, acc, a4, a5, a6, hv, hl, h => by
    simp only [List.length_cons] at hl
    obtain ⟨q, q1, q2, b5, b6, e⟩ := text_step (ns := ns) hx hne hxl (hv v (by simp)) (acc := acc) (by omega) (X2 := X2) (a5 := a5) (a6 := a6)
    obtain ⟨acc', c4, c5, c6, h1, h2, h3⟩ := text_loop (ns := ns) hx hne hxl (X2 := X2) vs (acc ++ [q]) (some (.val (.int v))) b5 b6 (fun u hu => hv u (by simp [hu])) (by simp; omega) (fun u hu => by
      rcases List.mem_append.mp hu with z | z
      · exact h u z
      · rw [List.mem_singleton.mp z]; exact ⟨q1, q2⟩)
    refine ⟨acc', c4, c5, c6, h1, by rw [h2]; simp; omega, ?_⟩
    rw [<- h3]
    simp only [List.map_cons, ev_forS, ev_asgN, Option.bind_some, List.set_cons_succ, List.set_cons_zero]
    rw [e]
    rfl
theorem eq_nil {ls : List (List Nat)} (h : ∀ q ∈ ls, Low q) : fEq false (.lst (ls.map sD)) (.lst []) = some (.bl (decide (ls = []))) := by
  have e := fEq_of (neg := false) (x := .lst ((ls.map mk).map D.str)) (y := .lst (([] : List Str).map D.str)) (lay_strs fun x hx => by obtain ⟨q, hq, rfl⟩ := List.mem_map.mp hx; exact ok_low (h q hq)) (lay_strs (by simp)) (by decide) (by decide) (eqv_strs _ _)
  rw [map_sD] at e
  have : (ls.map mk = []) ↔ ls = [] := by simp
  simpa [this] using e
theorem e_l_text {ns : List Int} {xs : List Str} (hx : ∀ x ∈ xs, NameOk x) (hne : 0 < xs.length) (hxl : xs.length <= 10) : ∃ l, Low l /\ l.length <= 300 /\ m_l_text [.val (.scr ns), .val (.lst (xs.map D.str))] = some (.val (sD l)) := by
  obtain ⟨n, hn⟩ : ∃ n : Nat, ns.getD 3 0 % 5 = (n : Int) := ⟨(ns.getD 3 0 % 5).toNat, by omega⟩
  have hn5 : n <= 4 := by omega
  obtain ⟨vs, v1, v2, er⟩ := e_l_row ns 4 1000000000 n (by omega) (by omega) (by omega)
  obtain ⟨ls, b4, b5, b6, h1, h2, h3⟩ := text_loop (ns := ns) hx hne hxl (X2 := some (.val (.int n))) vs [] none none none (fun v hv => (v1 v hv).1) (by simp; omega) (by simp)
  rw [List.map_nil] at h3
  have ec : m_l_cell [.val (.scr ns), .val (.int 3)] = some (.val (.int (ns.getD 3 0))) := e_l_cell ns 3
  have q0 := eq_nil (ls := ls) fun q hq => (h1 q hq).1
  have hfl := flat_len (ls := ls) (b := 60) fun q hq => (h1 q hq).2
  have hll : ls.length <= 4 := by rw [h2]; simp; omega
  have t2 : 2 <= TOP := by decide
  have er : m_l_row [.val (.scr ns), .val (.int 4), .val (.int 1000000000), .val (.int n)] = some (.acc (vs.map D.int)) := er
  by_cases hz : ls = []
  · refine ⟨[45], by intro d hd; rw [List.mem_singleton.mp hd]; omega, by simp, ?_⟩
    rw [decide_eq_true hz] at q0
    generalize ns.getD 3 0 = tt at *
    simp [m_l_text, mir, stE, N_l_text, g_l_text, ec, mod_ok, hn, p9, er, h3, q0, dash_mk]
  · rw [decide_eq_false hz] at q0
    obtain ⟨k, hk⟩ : ∃ k : Nat, ns.getD 3 0 / 5 % 2 = (k : Int) := ⟨(ns.getD 3 0 / 5 % 2).toNat, by omega⟩
    have hk2 : k = 0 ∨ k = 1 := by omega
    have j1 := join_ev (y := "; ") semi_mk (ls := ls) (by simp only [List.length_cons, List.length_nil]; omega)
    have j2 := join_ev (y := ", ") comma_mk (ls := ls) (by simp only [List.length_cons, List.length_nil]; omega)
    generalize ns.getD 3 0 = tt at *
    rcases hk2 with rfl | rfl
    · refine ⟨joinL [59, 32] ls, join_low (by intro d hd; simp at hd; omega) _ fun q hq => (h1 q hq).1, ?_, ?_⟩
      · have := join_len [59, 32] ls; simp only [List.length_cons, List.length_nil] at this; omega
      · simp [m_l_text, mir, stE, N_l_text, g_l_text, -ev_fJoin, ec, mod_ok, div_ok, hn, hk, p9, er, h3, q0, t2, j1]
    · refine ⟨joinL [44, 32] ls, join_low (by intro d hd; simp at hd; omega) _ fun q hq => (h1 q hq).1, ?_, ?_⟩
      · have := join_len [44, 32] ls; simp only [List.length_cons, List.length_nil] at this; omega
      · simp [m_l_text, mir, stE, N_l_text, g_l_text, -ev_fJoin, ec, mod_ok, div_ok, hn, hk, p9, er, h3, q0, t2, j2]
theorem slice_any (l : List Nat) (lo hi : Option Int) : ∃ q, Txt.slice (mk l) lo hi = mk q /\ (∀ d ∈ q, d ∈ l) /\ q.length <= l.length := by
  refine ⟨(Txt.slice (mk l) lo hi).cps.toList, of_list rfl, fun d hd => ?_, ?_⟩
  · unfold Txt.slice at hd
    split at hd
    · simpa [mk] using hd
    · simp only [List.mem_filterMap] at hd
      obtain ⟨i, _, e⟩ := hd
      have := Array.mem_of_getElem? e
      simpa [mk] using this
  · have := Txt.slice_le (mk l) lo hi
    rw [mk_len] at this
    simpa [Str.length] using this
theorem sub_flat {A B : List (List Nat)} (h : A.Sublist B) : A.flatten.length <= B.flatten.length := by
  induction h with
  | slnil => simp
  | cons a _ ih => simp only [List.flatten_cons, List.length_append]; omega
  | cons_cons a _ ih => simp only [List.flatten_cons, List.length_append]; omega
theorem words_flat (c : Nat) : ∀ l, (wordsL c l).flatten.length <= l.length
  | [] => by simp [wordsL]
  | a :: l => by
    have ih := words_flat c l
    obtain ⟨u, us, e⟩ := words_cons c l
    unfold wordsL
    by_cases q : a = c
    · rw [if_pos q]; simp only [List.flatten_cons, List.length_append, List.length_nil, List.length_cons]; omega
    · rw [if_neg q, e]; rw [e] at ih; simp only [List.flatten_cons, List.length_append, List.length_cons] at ih ⊢; omega
structure Wd (b : Nat) (W : List (List Nat)) : Prop where
  low : ∀ w ∈ W, Low w
  fl : W.flatten.length <= b
  le : W.length <= b
theorem Wd.cut {b : Nat} {W : List (List Nat)} (h : Wd b W) (lo hi : Option Int) : Wd b (Dv.cutD W lo hi) := by
  have s : (Dv.cutD W lo hi).Sublist W := by unfold Dv.cutD; exact (List.take_sublist _ _).trans (List.drop_sublist _ _)
  exact ⟨fun w hw => h.low w (s.subset hw), Nat.le_trans (sub_flat s) h.fl, Nat.le_trans s.length_le h.le⟩
theorem Wd.app {a b : Nat} {V W : List (List Nat)} (h : Wd a V) (k : Wd b W) : Wd (a + b) (V ++ W) := by
  refine ⟨fun w hw => ?_, ?_, ?_⟩
  · rcases List.mem_append.mp hw with z | z
    · exact h.low w z
    · exact k.low w z
  · have := h.fl; have := k.fl; simp only [List.flatten_append, List.length_append]; omega
  · have := h.le; have := k.le; simp only [List.length_append]; omega
theorem Wd.one {w : List Nat} {b : Nat} (h : Low w) (hl : w.length <= b) (hb : 1 <= b) : Wd b [w] := ⟨fun u hu => by rw [List.mem_singleton.mp hu]; exact h, by simpa using hl, by simpa using hb⟩
theorem Wd.set {b k : Nat} {W : List (List Nat)} {w : List Nat} {i : Nat} (h : Wd b W) (hw : Low w) (hl : w.length <= k) : Wd (b + k) (W.set i w) := by
  refine ⟨fun u hu => ?_, ?_, ?_⟩
  · rcases List.mem_or_eq_of_mem_set hu with z | z
    · exact h.low u z
    · rw [z]; exact hw
  · have key : ∀ (W : List (List Nat)) (i : Nat), (W.set i w).flatten.length <= W.flatten.length + w.length := by
      intro W
      induction W with
      | nil => intro i; simp
      | cons a W ih =>
        intro i
        cases i with
        | zero => simp only [List.set_cons_zero, List.flatten_cons, List.length_append]; omega
        | succ i => have := ih i; simp only [List.set_cons_succ, List.flatten_cons, List.length_append]; omega
    have := key W i; have := h.fl; omega
  · have := h.le; simp; omega
theorem wd_words {l : List Nat} (h : Low l) : Wd (l.length + 1) (wordsL 32 l) := ⟨fun w hw d hd => h d ((words_sub 32 l w hw).1 d hd), Nat.le_succ_of_le (words_flat 32 l), words_len 32 l⟩
theorem wd_join {b : Nat} {W : List (List Nat)} (h : Wd b W) (hb : b <= 1500) : fJoin (.str " ") [.lst (W.map sD)] = some (sD (joinL [32] W)) /\ Low (joinL [32] W) /\ (joinL [32] W).length <= 3000 := by
  have h1 := h.fl
  have h2 := h.le
  refine ⟨join_ev (y := " ") sp_mk (by simp only [List.length_cons, List.length_nil]; omega), join_low (by intro d hd; rw [List.mem_singleton.mp hd]; omega) _ h.low, ?_⟩
  have := join_len [32] W
  simp only [List.length_cons, List.length_nil] at this
  omega
def L23 : List Nat := [48, 49, 50, 51, 52, 53, 54, 55, 56, 57, 97, 98, 122, 65, 32, 45, 59, 58, 44, 95, 46, 10, 9]
theorem signs_ev (ρ : EnvD) : (gFz (g2 fCatS (gFz (gB fListS (gCons' (gc (.str "0123456789abzA -;:,_.")) gNil))) (gFz (gLst (gCons' (gc (.str "\n")) (gCons' (gc (.str "\t")) gNil)))))) ρ = some (.lst (L23.map fun d => sD [d])) := by
  have e1 : fListS [.str "0123456789abzA -;:,_."] = some ((L23.take 21).map fun d => sD [d]) := rfl
  have n1 : ("\n" : Str) = mk [10] := by decide +kernel
  have n2 : ("\t" : Str) = mk [9] := by decide +kernel
  have t2 : 2 <= TOP := by decide
  have t23 : 23 <= TOP := by decide
  rw [n1, n2]
  simp [e1, t2, t23, L23]
theorem pick_sD {L : List (List Nat)} {a : Int} (h1 : 0 <= a) (h2 : a < L.length) : ∃ q, q ∈ L /\ atI (L.map sD) a = some (sD q) := by
  obtain ⟨v, e1, _⟩ := atI_pos (xs := L) h1 h2
  exact ⟨v, atI_mem e1, by rw [atI_map, e1]; rfl⟩
theorem plus_mk {a b : List Nat} (h : a.length + b.length <= 5000) : fPlus (sD a) (sD b) = some (sD (a ++ b)) := by
  have h1 : (mk a).length + (mk b).length <= TOP := by rw [mk_len, mk_len]; exact t5000 h
  have e : mk a ++ mk b = mk (a ++ b) := mk_app a b
  simp [h1, e]
theorem slS {l : List Nat} (hl : l.length <= 5000) {g : EnvD -> Option D} {gl gh : EnvD -> Option (Option Int)} {ρ : EnvD} {lo hi : Option Int} (h1 : g ρ = some (sD l)) (h2 : gl ρ = some lo) (h3 : gh ρ = some hi) : ∃ q, gSlS g gl gh ρ = some (sD q) /\ (∀ d ∈ q, d ∈ l) /\ q.length <= l.length := by
  obtain ⟨q, e, h⟩ := slice_any l lo hi
  have ht : (mk l).length <= TOP := by rw [mk_len]; exact t5000 hl
  refine ⟨q, ?_, h⟩
  rw [ev_gSlS, h1, h2, h3]
  show (if (mk l).length <= TOP then some (D.str (Txt.slice (mk l) lo hi)) else none) = _
  rw [if_pos ht, e]
theorem if_ret {t : EnvD -> Option Bool} {e : EnvD -> Option D} {r : SD} {ρ : EnvD} {d : D} (h : t ρ = some true) (k : e ρ = some d) : sSeq (sIf t (sRet e) sNext) r ρ = some (.ret (.val d)) := by
  simp [h, k]
theorem if_next {t : EnvD -> Option Bool} {s1 r : SD} {ρ : EnvD} {f : Option Fl} (h : t ρ = some false) (k : r ρ = f) : sSeq (sIf t s1 sNext) r ρ = f := by
  simp [h, k]
theorem if_do {t : EnvD -> Option Bool} {s1 r : SD} {ρ ρ' : EnvD} {f : Option Fl} (h : t ρ = some true) (g : s1 ρ = some (.next ρ')) (k : r ρ' = f) : sSeq (sIf t s1 sNext) r ρ = f := by
  simp [h, g, k]
theorem cat_ev {A B : List (List Nat)} (h : A.length + B.length <= 5000) : fCatS (.lst (A.map sD)) (.lst (B.map sD)) = some ((A ++ B).map sD) := by
  have : A.length + B.length <= TOP := t5000 h
  simp [this]
abbrev spE (l : List Nat) (c w a : Int) (s : List Nat) (x6 x7 x8 : Option En) : EnvD := [some (.val (sD l)), some (.val (.int c)), some (.val (.lst (L23.map fun d => sD [d]))), some (.val (.int w)), some (.val (sD s)), some (.val (.int a)), x6, x7, x8]
theorem tst {l s : List Nat} {c w a k : Int} {x6 x7 x8 : Option En} : (gb' (g2 (fEq false) (gr 3) (gc (.int k)))) (spE l c w a s x6 x7 x8) = some (decide (w = k)) := by
  simp
theorem tail_ok {l s : List Nat} {c w a : Int} {x7 x8 : Option En} {W : List (List Nat)} {b : Nat} (h : Wd b W) (hb : b <= 1500) : (sRet (gSM fJoin (gc (.str " ")) (gCons' (gr 6) gNil))) (spE l c w a s (some (.acc (W.map sD))) x7 x8) = some (.ret (.val (sD (joinL [32] W)))) := by
  have e := (wd_join h hb).1
  simp [-ev_fJoin, e]
theorem slL {l s : List Nat} {c w a : Int} {x7 x8 : Option En} {W : List (List Nat)} {gl gh : EnvD -> Option (Option Int)} {lo hi : Option Int} (h1 : gl (spE l c w a s (some (.acc (W.map sD))) x7 x8) = some lo) (h2 : gh (spE l c w a s (some (.acc (W.map sD))) x7 x8) = some hi) :
    (gFz (gSl (gr 6) gl gh)) (spE l c w a s (some (.acc (W.map sD))) x7 x8) = some (.lst ((Dv.cutD W lo hi).map sD)) := by
  have := cut_map (f := sD) (xs := W) (l := lo) (h := hi)
  simp [h1, h2, this]
theorem catG {g1 g2' : EnvD -> Option D} {ρ : EnvD} {A B : List (List Nat)} (h1 : g1 ρ = some (.lst (A.map sD))) (h2 : g2' ρ = some (.lst (B.map sD))) (h : A.length + B.length <= 5000) : (gFz (g2 fCatS g1 g2')) ρ = some (.lst ((A ++ B).map sD)) := by
  have e := cat_ev h
  show (((g1 ρ).bind fun x => (g2' ρ).bind fun y => fCatS x y).map D.lst) = _
  rw [h1, h2]
  simp only [Option.bind_some, e, Option.map_some]
theorem setA6 {g1 g2' : EnvD -> Option D} {l s : List Nat} {c w a : Int} {x6 x7 x8 : Option En} {A B : List (List Nat)} (h1 : g1 (spE l c w a s x6 x7 x8) = some (.lst (A.map sD))) (h2 : g2' (spE l c w a s x6 x7 x8) = some (.lst (B.map sD))) (h : A.length + B.length <= 5000) :
    (sSetA 6 (g2 fCatS g1 g2')) (spE l c w a s x6 x7 x8) = some (.next (spE l c w a s (some (.acc ((A ++ B).map sD))) x7 x8)) := by
  have e := cat_ev h
  have e2 : (g2 fCatS g1 g2') (spE l c w a s x6 x7 x8) = some ((A ++ B).map sD) := by
    show (((g1 _).bind fun x => (g2' _).bind fun y => fCatS x y)) = _
    rw [h1, h2]
    simp only [Option.bind_some, e]
  generalize (A ++ B).map sD = R at *
  generalize g2 fCatS g1 g2' = G at *
  simp [e2]
def L6w : List (List Nat) := [[45], [48], [97, 49], [48, 48], [55, 58], [55]]
theorem l6_ev : ([.str "-", .str "0", .str "a1", .str "00", .str "7:", .str "7"] : List D) = L6w.map sD := by
  have a1 : ("a1" : Str) = mk [97, 49] := by decide +kernel
  have a2 : ("00" : Str) = mk [48, 48] := by decide +kernel
  have a3 : ("7:" : Str) = mk [55, 58] := by decide +kernel
  have a4 : ("7" : Str) = mk [55] := by decide +kernel
  rw [dash_mk, zero_mk, a1, a2, a3, a4]; rfl
def L4w : List (List Nat) := [[], [58], [44], [59]]
theorem l4_ev : ([.str "", .str ":", .str ",", .str ";"] : List D) = L4w.map sD := by
  have a1 : ("," : Str) = mk [44] := by decide +kernel
  have a2 : (";" : Str) = mk [59] := by decide +kernel
  rw [none_mk, colon_mk, a1, a2]; rfl
theorem sub_low {l q : List Nat} (h : Low l) (hq : ∀ d ∈ q, d ∈ l) : Low q := fun d hd => h d (hq d hd)
theorem app_low {a b : List Nat} (h : Low a) (k : Low b) : Low (a ++ b) := fun d hd => by
  rcases List.mem_append.mp hd with z | z
  · exact h d z
  · exact k d z
theorem e_l_spoilt {l : List Nat} (h : Low l) (hl : l.length <= 300) (c : Int) : ∃ q, Low q /\ q.length <= 3000 /\ m_l_spoilt [.val (sD l), .val (.int c)] = some (.val (sD q)) := by
  obtain ⟨s, hs, es⟩ := pick_sD (L := L23.map fun d => [d]) (a := c / 9 % 23) (Int.emod_nonneg _ (by omega)) (by have := Int.emod_lt_of_pos (c / 9) (show (0 : Int) < 23 by omega); simpa [L23] using this)
  have hs1 : Low s /\ s.length = 1 := by
    obtain ⟨d, hd, rfl⟩ := List.mem_map.mp hs
    have : ∀ d ∈ L23, d < 128 := by decide
    exact ⟨fun x hx => by rw [List.mem_singleton.mp hx]; exact this d hd, rfl⟩
  obtain ⟨hs1, hs2⟩ := hs1
  have es : atI (L23.map fun d => sD [d]) (c / 9 % 23) = some (sD s) := by rw [<- es, List.map_map]; rfl
  have hlen := len_mk (l := l) (by omega)
  have t23 : 23 <= TOP := by decide
  have l23 : L23.length = 23 := rfl
  obtain ⟨a, ha⟩ : ∃ a : Nat, c / 207 % ((l.length : Int) + 1) = (a : Int) := ⟨(c / 207 % ((l.length : Int) + 1)).toNat, by have := Int.emod_nonneg (c / 207) (show (l.length : Int) + 1 ≠ 0 by omega); omega⟩
  have hp1 : (0 : Int) < (l.length : Int) + 1 := by omega
  have head : ∀ {f : Option Fl} {r : SD}, r (spE l c (c % 9) a s none none none) = f ->
      sSeq (sSet 2 (gFz (g2 fCatS (gFz (gB fListS (gCons' (gc (.str "0123456789abzA -;:,_.")) gNil))) (gFz (gLst (gCons' (gc (.str "\n")) (gCons' (gc (.str "\t")) gNil))))))) (sSeq (sSet 3 (g2 fMod (gr 1) (gc (.int 9)))) (sSeq (sSet 4 (g2 fItem (gr 2) (g2 fMod (g2 fDiv (gr 1) (gc (.int 9))) (gc (.int 23))))) (sSeq (sSet 5 (g2 fMod (g2 fDiv (gr 1) (gc (.int 207))) (g2 fPlus (gB fLen (gCons' (gr 0) gNil)) (gc (.int 1))))) r))) [some (.val (sD l)), some (.val (.int c)), none, none, none, none, none, none, none] = f := by
    intro f r hr
    have sg := signs_ev [some (.val (sD l)), some (.val (.int c)), none, none, none, none, none, none, none]
    refine seq_next (ρ' := [some (.val (sD l)), some (.val (.int c)), some (.val (.lst (L23.map fun d => sD [d]))), none, none, none, none, none, none]) ?_ (seq_next (ρ' := [some (.val (sD l)), some (.val (.int c)), some (.val (.lst (L23.map fun d => sD [d]))), some (.val (.int (c % 9))), none, none, none, none, none]) ?_ (seq_next (ρ' := [some (.val (sD l)), some (.val (.int c)), some (.val (.lst (L23.map fun d => sD [d]))), some (.val (.int (c % 9))), some (.val (sD s)), none, none, none, none]) ?_ (seq_next ?_ hr)))
    · generalize (gFz (g2 fCatS (gFz (gB fListS (gCons' (gc (.str "0123456789abzA -;:,_.")) gNil))) (gFz (gLst (gCons' (gc (.str "\n")) (gCons' (gc (.str "\t")) gNil)))))) = G at *
      simp [sg]
    · simp [mod_ok]
    · simp [mod_ok, div_ok, es, t23, l23]
    · simp [mod_ok, div_ok, hlen, hp1, ha]
  have go : ∀ {q : List Nat}, Low q -> q.length <= 3000 -> g_l_spoilt [some (.val (sD l)), some (.val (.int c)), none, none, none, none, none, none, none] = some (.ret (.val (sD q))) -> ∃ q, Low q /\ q.length <= 3000 /\ m_l_spoilt [.val (sD l), .val (.int c)] = some (.val (sD q)) := fun {q} h1 h2 e => ⟨q, h1, h2, by
    show outO (g_l_spoilt [some (.val (sD l)), some (.val (.int c)), none, none, none, none, none, none, none]) = _
    rw [e]; rfl⟩
  have T : ∀ {x6 x7 x8 : Option En} (k : Int), (gb' (g2 (fEq false) (gr 3) (gc (.int k)))) (spE l c (c % 9) a s x6 x7 x8) = some (decide (c % 9 = k)) := fun k => tst
  generalize hw : c % 9 = w at *
  have g0 : (gr 0 : EnvD -> Option D) (spE l c w a s none none none) = some (sD l) := by simp
  have s5 : gSome (gr 5) (spE l c w a s none none none) = some (some (a : Int)) := by simp
  have s51 : gSome (g2 fPlus (gr 5) (gc (.int 1))) (spE l c w a s none none none) = some (some ((a : Int) + 1)) := by simp
  obtain ⟨p1, e1, u1, v1⟩ := slS (l := l) (by omega) g0 (gl := gNone) (lo := none) rfl s5
  obtain ⟨p2, e2, u2, v2⟩ := slS (l := l) (by omega) g0 s5 (gh := gNone) (hi := none) rfl
  obtain ⟨p3, e3, u3, v3⟩ := slS (l := l) (by omega) g0 s51 (gh := gNone) (hi := none) rfl
  have g4 : (gr 4 : EnvD -> Option D) (spE l c w a s none none none) = some (sD s) := by simp
  have P : ∀ {x y : EnvD -> Option D} {A B : List Nat} {ρ : EnvD}, x ρ = some (sD A) -> y ρ = some (sD B) -> A.length + B.length <= 5000 -> (g2 fPlus x y) ρ = some (sD (A ++ B)) := fun {x y A B ρ} h1 h2 h3 => by
    show ((x ρ).bind fun a => (y ρ).bind fun b => fPlus a b) = _
    rw [h1, h2]
    exact plus_mk h3
  by_cases w0 : w = 0
  · exact go (q := p1 ++ s ++ p2) (app_low (app_low (sub_low h u1) hs1) (sub_low h u2)) (by simp; omega) (head (if_ret (by rw [T, decide_eq_true w0]) (P (P e1 g4 (by omega)) e2 (by simp; omega))))
  by_cases w1 : w = 1
  · exact go (q := p1 ++ p3) (app_low (sub_low h u1) (sub_low h u3)) (by simp; omega) (head (if_next (by rw [T, decide_eq_false w0]) (if_ret (by rw [T, decide_eq_true w1]) (P e1 e3 (by omega)))))
  by_cases w2 : w = 2
  · exact go (q := p1 ++ s ++ p3) (app_low (app_low (sub_low h u1) hs1) (sub_low h u3)) (by simp; omega) (head (if_next (by rw [T, decide_eq_false w0]) (if_next (by rw [T, decide_eq_false w1]) (if_ret (by rw [T, decide_eq_true w2]) (P (P e1 g4 (by omega)) e3 (by simp; omega))))))
  have fs := fsplit_sp (l := l) (by omega)
  rw [map_sD] at fs
  have hW := wd_words h
  generalize hWW : wordsL 32 l = W at *
  have hWn : 0 < W.length := by obtain ⟨u, us, e⟩ := words_cons 32 l; rw [hWW] at e; rw [e]; simp
  have hWl := hW.le
  have hTW : W.length <= TOP := t5000 (by omega)
  obtain ⟨p, hp⟩ : ∃ p : Nat, c / 207 % (W.length : Int) = (p : Int) := ⟨(c / 207 % (W.length : Int)).toNat, by have := Int.emod_nonneg (c / 207) (show (W.length : Int) ≠ 0 by omega); omega⟩
  have hpl : p < W.length := by have := Int.emod_lt_of_pos (c / 207) (show (0 : Int) < (W.length : Int) by omega); omega
  have hWp : (0 : Int) < (W.length : Int) := by omega
  have mid : ∀ {f : Option Fl} {r : SD}, r (spE l c w a s (some (.acc (W.map sD))) (some (.val (.int p))) none) = f ->
      sSeq (sSetA 6 (gSML fSplit (gr 0) (gCons' (gc (.str " ")) gNil))) (sSeq (sSet 7 (g2 fMod (g2 fDiv (gr 1) (gc (.int 207))) (gB fLen (gCons' (gr 6) gNil)))) r) (spE l c w a s none none none) = f := by
    intro f r hr
    refine seq_next (ρ' := spE l c w a s (some (.acc (W.map sD))) none none) ?_ (seq_next ?_ hr)
    · simp [-ev_fSplit, fs]
    · simp [mod_ok, div_ok, hTW, hWp, hWn, hp]
  have s7 : ∀ {x8}, gSome (gr 7) (spE l c w a s (some (.acc (W.map sD))) (some (.val (.int p))) x8) = some (some (p : Int)) := by simp
  have s71 : ∀ {x8}, gSome (g2 fPlus (gr 7) (gc (.int 1))) (spE l c w a s (some (.acc (W.map sD))) (some (.val (.int p))) x8) = some (some ((p : Int) + 1)) := by simp
  have c1 := hW.cut none (some (p : Int))
  have c2 := hW.cut (some (p : Int)) none
  have c3 := hW.cut (some (p : Int)) (some ((p : Int) + 1))
  have c4 := hW.cut (some ((p : Int) + 1)) none
  have done : ∀ {W' : List (List Nat)} {b : Nat}, Wd b W' -> b <= 1500 -> g_l_spoilt [some (.val (sD l)), some (.val (.int c)), none, none, none, none, none, none, none] = some (.ret (.val (sD (joinL [32] W')))) -> ∃ q, Low q /\ q.length <= 3000 /\ m_l_spoilt [.val (sD l), .val (.int c)] = some (.val (sD q)) := fun hw hb e => go (wd_join hw hb).2.1 (wd_join hw hb).2.2 e
  have l1 := c1.le
  have l2 := c2.le
  have l3 := c3.le
  have l4 := c4.le
  have t1 : 1 <= TOP := by decide
  have t6 : 6 <= TOP := by decide
  have t4 : 4 <= TOP := by decide
  by_cases w4 : w = 4
  · have hh := (c1.app c3).app c2
    have k3 : w ≠ 3 := by omega
    have k5 : w ≠ 5 := by omega
    have k6 : w ≠ 6 := by omega
    exact done hh (by omega) (head (if_next (by rw [T, decide_eq_false w0]) (if_next (by rw [T, decide_eq_false w1]) (if_next (by rw [T, decide_eq_false w2]) (mid (if_next (by rw [T, decide_eq_false k3]) (if_do (by rw [T, decide_eq_true w4]) (setA6 (catG (slL (gl := gNone) rfl s7) (slL s7 s71) (by omega)) (slL s7 (gh := gNone) rfl) (by simp only [List.length_append]; omega)) (if_next (by rw [T, decide_eq_false k5]) (if_next (by rw [T, decide_eq_false k6]) (tail_ok hh (by omega)))))))))))
  by_cases w5 : w = 5
  · have hh := c1.app c4
    have k3 : w ≠ 3 := by omega
    have k4 : w ≠ 4 := by omega
    have k6 : w ≠ 6 := by omega
    exact done hh (by omega) (head (if_next (by rw [T, decide_eq_false w0]) (if_next (by rw [T, decide_eq_false w1]) (if_next (by rw [T, decide_eq_false w2]) (mid (if_next (by rw [T, decide_eq_false k3]) (if_next (by rw [T, decide_eq_false k4]) (if_do (by rw [T, decide_eq_true w5]) (setA6 (slL (gl := gNone) rfl s7) (slL s71 (gh := gNone) rfl) (by omega)) (if_next (by rw [T, decide_eq_false k6]) (tail_ok hh (by omega)))))))))))
  by_cases w3 : w = 3
  · obtain ⟨m, hm, em⟩ := pick_sD (L := L6w) (a := c / 9 % 6) (Int.emod_nonneg _ (by omega)) (by have := Int.emod_lt_of_pos (c / 9) (show (0 : Int) < 6 by omega); simpa [L6w] using this)
    rw [<- l6_ev] at em
    have hm2 : ∀ q ∈ L6w, Low q /\ q.length <= 2 := by decide
    have one := Wd.one (hm2 m hm).1 (hm2 m hm).2 (by omega)
    have hh := (c1.app one).app c2
    have e8 : (sSet 8 (g2 fItem (gFz (gLst (gCons' (gc (.str "-")) (gCons' (gc (.str "0")) (gCons' (gc (.str "a1")) (gCons' (gc (.str "00")) (gCons' (gc (.str "7:")) (gCons' (gc (.str "7")) gNil)))))))) (g2 fMod (g2 fDiv (gr 1) (gc (.int 9))) (gc (.int 6))))) (spE l c w a s (some (.acc (W.map sD))) (some (.val (.int p))) none) = some (.next (spE l c w a s (some (.acc (W.map sD))) (some (.val (.int p))) (some (.val (sD m))))) := by
      simp [mod_ok, div_ok, t6, em]
    have g8 : (gFz (gLst (gCons' (gv 8) gNil))) (spE l c w a s (some (.acc (W.map sD))) (some (.val (.int p))) (some (.val (sD m)))) = some (.lst ([m].map sD)) := by
      simp [t1]
    have k4 : w ≠ 4 := by omega
    have k5 : w ≠ 5 := by omega
    have k6 : w ≠ 6 := by omega
    exact done hh (by omega) (head (if_next (by rw [T, decide_eq_false w0]) (if_next (by rw [T, decide_eq_false w1]) (if_next (by rw [T, decide_eq_false w2]) (mid (if_do (by rw [T, decide_eq_true w3]) (seq_next e8 (setA6 (catG (slL (gl := gNone) rfl s7) g8 (by simp; omega)) (slL s7 (gh := gNone) rfl) (by simp only [List.length_append, List.length_cons, List.length_nil]; omega))) (if_next (by rw [T, decide_eq_false k4]) (if_next (by rw [T, decide_eq_false k5]) (if_next (by rw [T, decide_eq_false k6]) (tail_ok hh (by omega)))))))))))
  by_cases w6 : w = 6
  · obtain ⟨m, hm, em⟩ := pick_sD (L := L4w) (a := c / 18 % 4) (Int.emod_nonneg _ (by omega)) (by have := Int.emod_lt_of_pos (c / 18) (show (0 : Int) < 4 by omega); simpa [L4w] using this)
    rw [<- l4_ev] at em
    have hm2 : ∀ q ∈ L4w, Low q /\ q.length <= 1 := by decide
    obtain ⟨hmL, hmN⟩ := hm2 m hm
    obtain ⟨n, hn⟩ : ∃ n : Nat, 1000000 - c / 9 % 2 = (n : Int) := ⟨(1000000 - c / 9 % 2).toNat, by omega⟩
    have hn7 : n < 10 ^ 7 := by omega
    have hd := dg_len 6 n hn7
    have hf : n < FEW := by unfold FEW; omega
    have ep := plus_mk (a := dg n) (b := m) (by omega)
    have hh : Wd (l.length + 1 + 20) (W.set p (dg n ++ m)) := hW.set (app_low (dg_low n) hmL) (by simp; omega)
    have ei : ixN (W.map sD).length (p : Int) = some p := by
      simp [ixN, hpl]
    have e6 : (sPut 6 (gv 7) (g2 fPlus (gB fStr (gCons' (g2 fSub (g2 fPow (gc (.int 10)) (gc (.int 6))) (g2 fMod (g2 fDiv (gr 1) (gc (.int 9))) (gc (.int 2)))) gNil)) (g2 fItem (gFz (gLst (gCons' (gc (.str "")) (gCons' (gc (.str ":")) (gCons' (gc (.str ",")) (gCons' (gc (.str ";")) gNil)))))) (g2 fMod (g2 fDiv (gr 1) (gc (.int 18))) (gc (.int 4)))))) (spE l c w a s (some (.acc (W.map sD))) (some (.val (.int p))) none) = some (.next (spE l c w a s (some (.acc ((W.set p (dg n ++ m)).map sD))) (some (.val (.int p))) none)) := by
      have em2 : (W.map sD).set p (sD (dg n ++ m)) = (W.set p (dg n ++ m)).map sD := by rw [List.map_set]
      have ep : fPlus (.str (numT (n : Int))) (sD m) = some (sD (dg n ++ m)) := by rw [num_mk]; exact ep
      rw [<- em2]
      generalize W.map sD = WD at *
      simp [p6, mod_ok, div_ok, hn, hf, t4, em, ei, -ev_fPlusS, ep]
    have k3 : w ≠ 3 := by omega
    have k4 : w ≠ 4 := by omega
    have k5 : w ≠ 5 := by omega
    exact done hh (by omega) (head (if_next (by rw [T, decide_eq_false w0]) (if_next (by rw [T, decide_eq_false w1]) (if_next (by rw [T, decide_eq_false w2]) (mid (if_next (by rw [T, decide_eq_false k3]) (if_next (by rw [T, decide_eq_false k4]) (if_next (by rw [T, decide_eq_false k5]) (if_do (by rw [T, decide_eq_true w6]) e6 (tail_ok hh (by omega)))))))))))
  exact done hW (by omega) (head (if_next (by rw [T, decide_eq_false w0]) (if_next (by rw [T, decide_eq_false w1]) (if_next (by rw [T, decide_eq_false w2]) (mid (if_next (by rw [T, decide_eq_false w3]) (if_next (by rw [T, decide_eq_false w4]) (if_next (by rw [T, decide_eq_false w5]) (if_next (by rw [T, decide_eq_false w6]) (tail_ok hW (by omega)))))))))))
end My
namespace My
open PySem PySem.Spec L2 L3 L4 L6 Dv HM QM
open PyProof.Rows hiding St
abbrev lawE (ns : List Int) (xs : List Str) (l : List Nat) (x3 : Option En) : EnvD := [some (.val (.scr ns)), some (.val (.lst (xs.map D.str))), some (.val (sD l)), x3]
theorem law_step {ns : List Int} {xs : List Str} {l : List Nat} (h : Low l) (hl : l.length <= 300) (k : Nat) : b_law_0 (lawE ns xs l (some (.val (.int (k : Int))))) = some (.next (lawE ns xs l (some (.val (.int (k : Int)))))) := by
  have ec := e_l_cell ns k
  obtain ⟨q, q1, q2, e⟩ := e_l_spoilt h hl (ns.getD k 0)
  have r := e_right q1 (by omega)
  generalize ns.getD k 0 = t at *
  simp [b_law_0, ec, e, r]
theorem law_loop {ns : List Int} {xs : List Str} {l : List Nat} (h : Low l) (hl : l.length <= 300) : ∀ (ks : List Nat) (x3 : Option En), ∃ y3, forD (.name 3) b_law_0 (ks.map fun (k : Nat) => D.int (k : Int)) (lawE ns xs l x3) = some (.next (lawE ns xs l y3))
  | [], x3 => ⟨x3, by simp⟩
  | k :: ks, x3 => by
    obtain ⟨y3, i⟩ := law_loop (ns := ns) (xs := xs) h hl ks (some (.val (.int (k : Int))))
    have e := law_step (ns := ns) (xs := xs) h hl k
    exact ⟨y3, by simp [e, i]⟩
theorem rng_map : ∀ (n lo : Nat), ∃ ks : List Nat, rngD (lo : Int) n = ks.map fun (k : Nat) => D.int (k : Int)
  | 0, _ => ⟨[], rfl⟩
  | n + 1, lo => by
    obtain ⟨ks, e⟩ := rng_map n (lo + 1)
    refine ⟨lo :: ks, ?_⟩
    show D.int (lo : Int) :: rngD ((lo : Int) + 1) n = _
    have : ((lo : Int) + 1) = ((lo + 1 : Nat) : Int) := by omega
    rw [this, e]; rfl
theorem math_law (ns : List Int) (hl : ns.length <= 63) : m_law [.val (.scr ns)] = some (.val (.bl true)) := by
  obtain ⟨n, hn⟩ : ∃ n : Nat, 1 + ns.getD 2 0 % 4 = (n : Int) := ⟨(1 + ns.getD 2 0 % 4).toNat, by omega⟩
  have hn4 : 0 < n /\ n <= 4 := by omega
  obtain ⟨xs, hx, _, hxl, en⟩ := e_l_names (ns.getD 1 0) n (by omega)
  obtain ⟨l, l1, l2, et⟩ := e_l_text (ns := ns) hx (by omega) (by omega)
  have c1 : m_l_cell [.val (.scr ns), .val (.int 1)] = some (.val (.int (ns.getD 1 0))) := e_l_cell ns 1
  have c2 : m_l_cell [.val (.scr ns), .val (.int 2)] = some (.val (.int (ns.getD 2 0))) := e_l_cell ns 2
  have r0 := e_right l1 (by omega)
  have r1 : m_l_right [.val (.str "")] = some (.val (.bl true)) := by
    have := e_right (l := []) (by intro d hd; simp at hd) (by simp)
    rw [none_mk]; exact this
  have r2 : m_l_right [.val (.str "00 007")] = some (.val (.bl true)) := by
    have e : ("00 007" : Str) = mk [48, 48, 32, 48, 48, 55] := by decide +kernel
    rw [e]; exact e_right (by decide) (by simp)
  have s1 : (sSet 1 (gFz (gCall (len? 2 m_l_names) accO (nCons (gVal (gCall (len? 2 m_l_cell) frzO (nCons (gn 0) (nCons (gVal (gc (.int 1))) nNil)))) (nCons (gVal (g2 fPlus (gc (.int 1)) (g2 fMod (gCall (len? 2 m_l_cell) frzO (nCons (gn 0) (nCons (gVal (gc (.int 2))) nNil))) (gc (.int 4))))) nNil))))) [some (.val (.scr ns)), none, none, none] = some (.next [some (.val (.scr ns)), some (.val (.lst (xs.map D.str))), none, none]) := by
    generalize ns.getD 1 0 = u1 at *
    generalize ns.getD 2 0 = u2 at *
    simp [c1, c2, mod_ok, hn, en]
  have s2 : (sSet 2 (gCall (len? 2 m_l_text) frzO (nCons (gn 0) (nCons (gn 1) nNil)))) [some (.val (.scr ns)), some (.val (.lst (xs.map D.str))), none, none] = some (.next (lawE ns xs l none)) := by
    simp [et]
  have s3 : (gOr (gNot (gt (gCall (len? 1 m_l_right) frzO (nCons (gn 2) nNil)))) (gOr (gNot (gt (gCall (len? 1 m_l_right) frzO (nCons (gVal (gc (.str ""))) nNil)))) (gNot (gt (gCall (len? 1 m_l_right) frzO (nCons (gVal (gc (.str "00 007"))) nNil)))))) (lawE ns xs l none) = some false := by
    simp [r0, r1, r2]
  have tl : ns.length <= TOP := top_small (by omega)
  have s4 : ∃ K, (gR2 (gCons' (gc (.int 5)) (gCons' (gB fMax (gCons' (gc (.int 8)) (gCons' (gB fMin (gCons' (gB fLen (gCons' (gr 0) gNil)) (gCons' (gc (.int 45)) gNil))) gNil))) gNil))) (lawE ns xs l none) = some (rngD ((5 : Nat) : Int) K) := by
    have hv : ∃ j : Int, 0 <= j /\ j <= 1000 /\ (gB fMax (gCons' (gc (.int 8)) (gCons' (gB fMin (gCons' (gB fLen (gCons' (gr 0) gNil)) (gCons' (gc (.int 45)) gNil))) gNil))) (lawE ns xs l none) = some (.int j) := by
      exact ⟨max 8 (min (ns.length : Int) 45), by omega, by omega, by simp [tl]⟩
    obtain ⟨j, j1, j2, ev⟩ := hv
    refine ⟨(j - 5).toNat, ?_⟩
    generalize (gB fMax (gCons' (gc (.int 8)) (gCons' (gB fMin (gCons' (gB fLen (gCons' (gr 0) gNil)) (gCons' (gc (.int 45)) gNil))) gNil))) = G at *
    have hb : (-BIG <= 5 /\ 5 <= BIG) /\ (-BIG <= j /\ j <= BIG) := by unfold BIG; omega
    show ((gCons' (gc (.int 5)) (gCons' G gNil)) (lawE ns xs l none)).bind _ = _
    have e0 : (gCons' (gc (.int 5)) (gCons' G gNil)) (lawE ns xs l none) = some [.int 5, .int j] := by simp [ev]
    rw [e0]
    show (if (-BIG <= 5 /\ 5 <= BIG) /\ (-BIG <= j /\ j <= BIG) then some (rngD 5 (j - 5).toNat) else none) = _
    rw [if_pos hb]; rfl
  obtain ⟨K, s4⟩ := s4
  obtain ⟨ks, ek⟩ := rng_map K 5
  obtain ⟨y3, s5⟩ := law_loop (ns := ns) (xs := xs) l1 l2 ks none
  rw [<- ek] at s5
  have s6 : (sFor (.name 3) (gR2 (gCons' (gc (.int 5)) (gCons' (gB fMax (gCons' (gc (.int 8)) (gCons' (gB fMin (gCons' (gB fLen (gCons' (gr 0) gNil)) (gCons' (gc (.int 45)) gNil))) gNil))) gNil))) b_law_0) (lawE ns xs l none) = some (.next (lawE ns xs l y3)) := by
    rw [ev_sFor, s4]; exact s5
  have tot : g_law [some (.val (.scr ns)), none, none, none] = some (.ret (.val (.bl true))) := seq_next s1 (seq_next s2 (if_next s3 (seq_next s6 rfl)))
  show outO (g_law [some (.val (.scr ns)), none, none, none]) = _
  rw [tot]; rfl
end My
namespace My
open PySem PySem.Spec L2 L3 L4 L6 Dv
open PyProof.Rows hiding St
def spOut (K : PySem.W.Frag) : Sp := fun vs H Q _ => ∃ (a : Addr) (ns : List Int), vs = [.ref a] /\ SqL K H a (ns.map V.int) /\ ns.length <= 63 /\ ∀ H', Q (.bl true) H'
theorem out_of {P : Program} {w : World} {K : PySem.W.Frag} {mg : Str -> Option Value} {base : Heap} {k : Nat} {f : Addr} {fd : FuncData} {ps : List Str} {m : List En -> Option En} (h : FnOk P w K mg base CX0 k f fd ps (pSp ⟨K, w⟩ 1 (len? 1 m)))
    (hm : ∀ ns : List Int, ns.length <= 63 -> m [.val (.scr ns)] = some (.val (.bl true))) : FnOk P w K mg base CX0 k f fd ps (spOut K) :=
  h.imp fun vs H Q E ⟨a, ns, e, hs, hl, q⟩ => ⟨H, [.val (.scr ns)], .val (.bl true), Same.refl _, rfl, by subst e; exact .cons ⟨a, rfl, hs⟩ .nil, hm ns hl, fun v F' H' _ r => by cases r; exact q H'⟩
set_option maxHeartbeats 0 in
theorem all_mk {l : PySem.W.OpenLaw} {w : World} {K : PySem.W.Frag} {h : Heap} {mg : Str -> Option Value} {fa : Addr} (X : K.In h) (G : h.Ns mainGlobals mg) (hfa : mg "law" = some (.ref fa))
    {f0 : Addr} {od0 an0 : Option Addr} {sl0 : Array (Option Value)} {oc0 kV0 dc0 pm0 cd0 ct0 : Value}
    {f1 : Addr} {od1 an1 : Option Addr} {sl1 : Array (Option Value)} {oc1 kV1 dc1 pm1 cd1 ct1 : Value}
    {f2 : Addr} {od2 an2 : Option Addr} {sl2 : Array (Option Value)} {oc2 kV2 dc2 pm2 cd2 ct2 : Value}
    {f3 : Addr} {od3 an3 : Option Addr} {sl3 : Array (Option Value)} {oc3 kV3 dc3 pm3 cd3 ct3 : Value}
    {f4 : Addr} {od4 an4 : Option Addr} {sl4 : Array (Option Value)} {oc4 kV4 dc4 pm4 cd4 ct4 : Value}
    {f5 : Addr} {od5 an5 : Option Addr} {sl5 : Array (Option Value)} {oc5 kV5 dc5 pm5 cd5 ct5 : Value}
    {f6 : Addr} {od6 an6 : Option Addr} {sl6 : Array (Option Value)} {oc6 kV6 dc6 pm6 cd6 ct6 : Value}
    {f7 : Addr} {od7 an7 : Option Addr} {sl7 : Array (Option Value)} {oc7 kV7 dc7 pm7 cd7 ct7 : Value}
    {f8 : Addr} {od8 an8 : Option Addr} {sl8 : Array (Option Value)} {oc8 kV8 dc8 pm8 cd8 ct8 : Value}
    {f9 : Addr} {od9 an9 : Option Addr} {sl9 : Array (Option Value)} {oc9 kV9 dc9 pm9 cd9 ct9 : Value}
    {f10 : Addr} {od10 an10 : Option Addr} {sl10 : Array (Option Value)} {oc10 kV10 dc10 pm10 cd10 ct10 : Value}
    {f11 : Addr} {od11 an11 : Option Addr} {sl11 : Array (Option Value)} {oc11 kV11 dc11 pm11 cd11 ct11 : Value}
    {f12 : Addr} {od12 an12 : Option Addr} {sl12 : Array (Option Value)} {oc12 kV12 dc12 pm12 cd12 ct12 : Value}
    {f13 : Addr} {od13 an13 : Option Addr} {sl13 : Array (Option Value)} {oc13 kV13 dc13 pm13 cd13 ct13 : Value}
    {f14 : Addr} {od14 an14 : Option Addr} {sl14 : Array (Option Value)} {oc14 kV14 dc14 pm14 cd14 ct14 : Value}
    {f15 : Addr} {od15 an15 : Option Addr} {sl15 : Array (Option Value)} {oc15 kV15 dc15 pm15 cd15 ct15 : Value}
    {f16 : Addr} {od16 an16 : Option Addr} {sl16 : Array (Option Value)} {oc16 kV16 dc16 pm16 cd16 ct16 : Value}
    {f17 : Addr} {od17 an17 : Option Addr} {sl17 : Array (Option Value)} {oc17 kV17 dc17 pm17 cd17 ct17 : Value}
    {f18 : Addr} {od18 an18 : Option Addr} {sl18 : Array (Option Value)} {oc18 kV18 dc18 pm18 cd18 ct18 : Value}
    {f19 : Addr} {od19 an19 : Option Addr} {sl19 : Array (Option Value)} {oc19 kV19 dc19 pm19 cd19 ct19 : Value}
    {CT HE : Addr} {ddT : Option Addr} {cdT : ClassData} {k0T k1T k2T k3T k5T : Option Value} {bmT : List Value}
    {O_NoName : Addr}
    {O_NoNumber : Addr}
    {t_FIGURES : Tok}
    {t_LETTERS : Tok}
    {t_MOST_FIGURES : Tok}
    {t_MOST_SIGNS : Tok}
    {t_NOTHING : Tok}
    (a0 : PySem.W.nsIn K mainGlobals "is_name" = some (some (.ref f0)))
    (l0 : K.lookup f0 = some ⟨oc0, od0, .func (PySem.W.fnOf "is_name" "is_name" (defArgs s_is_name) (defBody s_is_name) (defScope s_is_name) .none kV0 dc0 pm0 an0 cd0 ct0), sl0⟩)
    (c0 : PySem.W.codeIn K cd0 "is_name" = true)
    (k0 : PySem.W.keepIn K (.ref f0) = true)
    (a1 : PySem.W.nsIn K mainGlobals "number_in" = some (some (.ref f1)))
    (l1 : K.lookup f1 = some ⟨oc1, od1, .func (PySem.W.fnOf "number_in" "number_in" (defArgs s_number_in) (defBody s_number_in) (defScope s_number_in) .none kV1 dc1 pm1 an1 cd1 ct1), sl1⟩)
    (c1 : PySem.W.codeIn K cd1 "number_in" = true)
    (k1 : PySem.W.keepIn K (.ref f1) = true)
    (a2 : PySem.W.nsIn K mainGlobals "name_in" = some (some (.ref f2)))
    (l2 : K.lookup f2 = some ⟨oc2, od2, .func (PySem.W.fnOf "name_in" "name_in" (defArgs s_name_in) (defBody s_name_in) (defScope s_name_in) .none kV2 dc2 pm2 an2 cd2 ct2), sl2⟩)
    (c2 : PySem.W.codeIn K cd2 "name_in" = true)
    (k2 : PySem.W.keepIn K (.ref f2) = true)
    (a3 : PySem.W.nsIn K mainGlobals "row_in" = some (some (.ref f3)))
    (l3 : K.lookup f3 = some ⟨oc3, od3, .func (PySem.W.fnOf "row_in" "row_in" (defArgs s_row_in) (defBody s_row_in) (defScope s_row_in) .none kV3 dc3 pm3 an3 cd3 ct3), sl3⟩)
    (c3 : PySem.W.codeIn K cd3 "row_in" = true)
    (k3 : PySem.W.keepIn K (.ref f3) = true)
    (a4 : PySem.W.nsIn K mainGlobals "rows_in" = some (some (.ref f4)))
    (l4 : K.lookup f4 = some ⟨oc4, od4, .func (PySem.W.fnOf "rows_in" "rows_in" (defArgs s_rows_in) (defBody s_rows_in) (defScope s_rows_in) .none kV4 dc4 pm4 an4 cd4 ct4), sl4⟩)
    (c4 : PySem.W.codeIn K cd4 "rows_in" = true)
    (k4 : PySem.W.keepIn K (.ref f4) = true)
    (a5 : PySem.W.nsIn K mainGlobals "ticket_in" = some (some (.ref f5)))
    (l5 : K.lookup f5 = some ⟨oc5, od5, .func (PySem.W.fnOf "ticket_in" "ticket_in" (defArgs s_ticket_in) (defBody s_ticket_in) (defScope s_ticket_in) .none kV5 dc5 pm5 an5 cd5 ct5), sl5⟩)
    (c5 : PySem.W.codeIn K cd5 "ticket_in" = true)
    (k5 : PySem.W.keepIn K (.ref f5) = true)
    (a6 : PySem.W.nsIn K mainGlobals "queue_in" = some (some (.ref f6)))
    (l6 : K.lookup f6 = some ⟨oc6, od6, .func (PySem.W.fnOf "queue_in" "queue_in" (defArgs s_queue_in) (defBody s_queue_in) (defScope s_queue_in) .none kV6 dc6 pm6 an6 cd6 ct6), sl6⟩)
    (c6 : PySem.W.codeIn K cd6 "queue_in" = true)
    (k6 : PySem.W.keepIn K (.ref f6) = true)
    (a7 : PySem.W.nsIn K mainGlobals "_law_cell" = some (some (.ref f7)))
    (l7 : K.lookup f7 = some ⟨oc7, od7, .func (PySem.W.fnOf "_law_cell" "_law_cell" (defArgs s_l_cell) (defBody s_l_cell) (defScope s_l_cell) .none kV7 dc7 pm7 an7 cd7 ct7), sl7⟩)
    (c7 : PySem.W.codeIn K cd7 "_law_cell" = true)
    (k7 : PySem.W.keepIn K (.ref f7) = true)
    (a8 : PySem.W.nsIn K mainGlobals "_law_stir" = some (some (.ref f8)))
    (l8 : K.lookup f8 = some ⟨oc8, od8, .func (PySem.W.fnOf "_law_stir" "_law_stir" (defArgs s_l_stir) (defBody s_l_stir) (defScope s_l_stir) .none kV8 dc8 pm8 an8 cd8 ct8), sl8⟩)
    (c8 : PySem.W.codeIn K cd8 "_law_stir" = true)
    (k8 : PySem.W.keepIn K (.ref f8) = true)
    (a9 : PySem.W.nsIn K mainGlobals "_law_row" = some (some (.ref f9)))
    (l9 : K.lookup f9 = some ⟨oc9, od9, .func (PySem.W.fnOf "_law_row" "_law_row" (defArgs s_l_row) (defBody s_l_row) (defScope s_l_row) .none kV9 dc9 pm9 an9 cd9 ct9), sl9⟩)
    (c9 : PySem.W.codeIn K cd9 "_law_row" = true)
    (k9 : PySem.W.keepIn K (.ref f9) = true)
    (a10 : PySem.W.nsIn K mainGlobals "_law_names" = some (some (.ref f10)))
    (l10 : K.lookup f10 = some ⟨oc10, od10, .func (PySem.W.fnOf "_law_names" "_law_names" (defArgs s_l_names) (defBody s_l_names) (defScope s_l_names) .none kV10 dc10 pm10 an10 cd10 ct10), sl10⟩)
    (c10 : PySem.W.codeIn K cd10 "_law_names" = true)
    (k10 : PySem.W.keepIn K (.ref f10) = true)
    (a11 : PySem.W.nsIn K mainGlobals "_law_text" = some (some (.ref f11)))
    (l11 : K.lookup f11 = some ⟨oc11, od11, .func (PySem.W.fnOf "_law_text" "_law_text" (defArgs s_l_text) (defBody s_l_text) (defScope s_l_text) .none kV11 dc11 pm11 an11 cd11 ct11), sl11⟩)
    (c11 : PySem.W.codeIn K cd11 "_law_text" = true)
    (k11 : PySem.W.keepIn K (.ref f11) = true)
    (a12 : PySem.W.nsIn K mainGlobals "_law_spoilt" = some (some (.ref f12)))
    (l12 : K.lookup f12 = some ⟨oc12, od12, .func (PySem.W.fnOf "_law_spoilt" "_law_spoilt" (defArgs s_l_spoilt) (defBody s_l_spoilt) (defScope s_l_spoilt) .none kV12 dc12 pm12 an12 cd12 ct12), sl12⟩)
    (c12 : PySem.W.codeIn K cd12 "_law_spoilt" = true)
    (k12 : PySem.W.keepIn K (.ref f12) = true)
    (a13 : PySem.W.nsIn K mainGlobals "_law_figures" = some (some (.ref f13)))
    (l13 : K.lookup f13 = some ⟨oc13, od13, .func (PySem.W.fnOf "_law_figures" "_law_figures" (defArgs s_l_figures) (defBody s_l_figures) (defScope s_l_figures) .none kV13 dc13 pm13 an13 cd13 ct13), sl13⟩)
    (c13 : PySem.W.codeIn K cd13 "_law_figures" = true)
    (k13 : PySem.W.keepIn K (.ref f13) = true)
    (a14 : PySem.W.nsIn K mainGlobals "_law_name" = some (some (.ref f14)))
    (l14 : K.lookup f14 = some ⟨oc14, od14, .func (PySem.W.fnOf "_law_name" "_law_name" (defArgs s_l_name) (defBody s_l_name) (defScope s_l_name) .none kV14 dc14 pm14 an14 cd14 ct14), sl14⟩)
    (c14 : PySem.W.codeIn K cd14 "_law_name" = true)
    (k14 : PySem.W.keepIn K (.ref f14) = true)
    (a15 : PySem.W.nsIn K mainGlobals "_law_rows" = some (some (.ref f15)))
    (l15 : K.lookup f15 = some ⟨oc15, od15, .func (PySem.W.fnOf "_law_rows" "_law_rows" (defArgs s_l_rows) (defBody s_l_rows) (defScope s_l_rows) .none kV15 dc15 pm15 an15 cd15 ct15), sl15⟩)
    (c15 : PySem.W.codeIn K cd15 "_law_rows" = true)
    (k15 : PySem.W.keepIn K (.ref f15) = true)
    (a16 : PySem.W.nsIn K mainGlobals "_law_queue" = some (some (.ref f16)))
    (l16 : K.lookup f16 = some ⟨oc16, od16, .func (PySem.W.fnOf "_law_queue" "_law_queue" (defArgs s_l_queue) (defBody s_l_queue) (defScope s_l_queue) .none kV16 dc16 pm16 an16 cd16 ct16), sl16⟩)
    (c16 : PySem.W.codeIn K cd16 "_law_queue" = true)
    (k16 : PySem.W.keepIn K (.ref f16) = true)
    (a17 : PySem.W.nsIn K mainGlobals "_law_read" = some (some (.ref f17)))
    (l17 : K.lookup f17 = some ⟨oc17, od17, .func (PySem.W.fnOf "_law_read" "_law_read" (defArgs s_l_read) (defBody s_l_read) (defScope s_l_read) .none kV17 dc17 pm17 an17 cd17 ct17), sl17⟩)
    (c17 : PySem.W.codeIn K cd17 "_law_read" = true)
    (k17 : PySem.W.keepIn K (.ref f17) = true)
    (a18 : PySem.W.nsIn K mainGlobals "_law_right" = some (some (.ref f18)))
    (l18 : K.lookup f18 = some ⟨oc18, od18, .func (PySem.W.fnOf "_law_right" "_law_right" (defArgs s_l_right) (defBody s_l_right) (defScope s_l_right) .none kV18 dc18 pm18 an18 cd18 ct18), sl18⟩)
    (c18 : PySem.W.codeIn K cd18 "_law_right" = true)
    (k18 : PySem.W.keepIn K (.ref f18) = true)
    (a19 : PySem.W.nsIn K mainGlobals "law" = some (some (.ref f19)))
    (l19 : K.lookup f19 = some ⟨oc19, od19, .func (PySem.W.fnOf "law" "law" (defArgs s_law) (defBody s_law) (defScope s_law) .none kV19 dc19 pm19 an19 cd19 ct19), sl19⟩)
    (c19 : PySem.W.codeIn K cd19 "law" = true)
    (k19 : PySem.W.keepIn K (.ref f19) = true)
    (xT : PySem.W.nsIn K mainGlobals "NoLine" = some (some (.ref CT)))
    (xH : PySem.W.nsIn K mainGlobals "HallError" = some (some (.ref HE)))
    (xl : K.lookup CT = some ⟨.type "type", ddT, .cls cdT, #[k0T, k1T, k2T, k3T, some (.builtin "ValueError.__new__"), k5T]⟩)
    (xmr : cdT.mro = .ref CT :: bmT)
    (xdl : cdT.hasDel = false)
    (xtl : PySem.W.tailIn K vB bmT = true)
    (xok : PySem.W.nsOkIn K cdT.ns = true)
    (xin : PySem.W.nsIn K cdT.ns "__init__" = some none)
    (xkp : PySem.W.keepIn K (.ref CT) = true)
    (xsub : PySem.W.subIn K (.ref CT) (.type "BaseException") = some true)
    (xsubH : PySem.W.subIn K (.ref CT) (.ref HE) = some true)
    (xga : PySem.W.findIn K (.ref CT) "__getattribute__" = some (some (.builtin "BaseException.__getattribute__")))
    (xgt : PySem.W.findIn K (.ref CT) "__getattr__" = some none)
    (xca : PySem.W.findIn K (.ref CT) "__class__" = some (some (.builtin "object.__class__")))
    (xcg : PySem.W.specialIn K (.builtin "object.__class__") "__get__" = some (some (.builtin "getset_descriptor.__get__")))
    (xct : PySem.W.takesIn K (.builtin "object.__class__") = some true)
    (xmo : PySem.W.mroIn K CT (.type "object") = some true)
    (xse : PySem.W.subIn K (.ref CT) (.ref CT) = some true)
    (xnt : PySem.W.instIn K (.ref CT) (.type "tuple") = some false)
    (xcl : PySem.W.isClsIn K CT = true)
    (xntH : PySem.W.instIn K (.ref HE) (.type "tuple") = some false)
    (xclH : PySem.W.isClsIn K HE = true)
    (xexH : PySem.W.subIn K (.ref HE) (.type "BaseException") = some true)
    (xtyH : PySem.W.typeIn K (.ref HE) = some (.type "type"))
    (om_NoName : PySem.W.nsIn K mainGlobals "NoName" = some (some (.ref O_NoName)))
    (oc_NoName : PySem.W.isClsIn K O_NoName = true)
    (ot_NoName : PySem.W.typeIn K (.ref O_NoName) = some (.type "type"))
    (os_NoName : PySem.W.subIn K (.ref CT) (.ref O_NoName) = some false)
    (om_NoNumber : PySem.W.nsIn K mainGlobals "NoNumber" = some (some (.ref O_NoNumber)))
    (oc_NoNumber : PySem.W.isClsIn K O_NoNumber = true)
    (ot_NoNumber : PySem.W.typeIn K (.ref O_NoNumber) = some (.type "type"))
    (os_NoNumber : PySem.W.subIn K (.ref CT) (.ref O_NoNumber) = some false)
    (b_all : PySem.W.nsIn K mainGlobals "all" = some none)
    (b_enumerate : PySem.W.nsIn K mainGlobals "enumerate" = some none)
    (b_int : PySem.W.nsIn K mainGlobals "int" = some none)
    (b_isinstance : PySem.W.nsIn K mainGlobals "isinstance" = some none)
    (b_len : PySem.W.nsIn K mainGlobals "len" = some none)
    (b_list : PySem.W.nsIn K mainGlobals "list" = some none)
    (b_max : PySem.W.nsIn K mainGlobals "max" = some none)
    (b_min : PySem.W.nsIn K mainGlobals "min" = some none)
    (b_range : PySem.W.nsIn K mainGlobals "range" = some none)
    (b_str : PySem.W.nsIn K mainGlobals "str" = some none)
    (c_FIGURES : PySem.W.nsIn K mainGlobals "FIGURES" = some (some (.str "0123456789" t_FIGURES)))
    (c_LETTERS : PySem.W.nsIn K mainGlobals "LETTERS" = some (some (.str "abcdefghijklmnopqrstuvwxyz" t_LETTERS)))
    (c_MOST_FIGURES : PySem.W.nsIn K mainGlobals "MOST_FIGURES" = some (some (.int 6 t_MOST_FIGURES)))
    (c_MOST_SIGNS : PySem.W.nsIn K mainGlobals "MOST_SIGNS" = some (some (.int 8 t_MOST_SIGNS)))
    (c_NOTHING : PySem.W.nsIn K mainGlobals "NOTHING" = some (some (.str "-" t_NOTHING)))
    : ∃ fd : FuncData, (∀ (s : Shared) (v : Value), BindsTo s fd ⟨[v], []⟩ [("_law_script", v)]) /\ ∀ base : Heap, K.In base -> base.Ns mainGlobals mg -> FnOk l.prog w K mg base CX0 8 fa fd ["_law_script"] (spOut K) := by
  have e := hfa.symm.trans (PySem.W.mg_of X G a19)
  cases e
  have T : Txt K mg 0 := ⟨PySem.W.mg_none_of X G b_all, PySem.W.mg_none_of X G b_enumerate, PySem.W.mg_none_of X G b_int, PySem.W.mg_none_of X G b_isinstance, PySem.W.mg_none_of X G b_len, PySem.W.mg_none_of X G b_list, PySem.W.mg_none_of X G b_max, PySem.W.mg_none_of X G b_min, PySem.W.mg_none_of X G b_range, PySem.W.mg_none_of X G b_str, ⟨_, PySem.W.mg_of X G c_FIGURES⟩, ⟨_, PySem.W.mg_of X G c_LETTERS⟩, ⟨_, PySem.W.mg_of X G c_MOST_FIGURES⟩, ⟨_, PySem.W.mg_of X G c_MOST_SIGNS⟩, ⟨_, PySem.W.mg_of X G c_NOTHING⟩⟩
  have F0 := fun_mk (st := s_is_name) l0 c0 k0
  have bb0 := F0.binds (ps := ["thing"]) fun _ _ _ _ _ _ us hl => match us, hl with | [_], _ => rfl
  have F1 := fun_mk (st := s_number_in) l1 c1 k1
  have bb1 := F1.binds (ps := ["word"]) fun _ _ _ _ _ _ us hl => match us, hl with | [_], _ => rfl
  have F2 := fun_mk (st := s_name_in) l2 c2 k2
  have bb2 := F2.binds (ps := ["word"]) fun _ _ _ _ _ _ us hl => match us, hl with | [_], _ => rfl
  have F3 := fun_mk (st := s_row_in) l3 c3 k3
  have bb3 := F3.binds (ps := ["text"]) fun _ _ _ _ _ _ us hl => match us, hl with | [_], _ => rfl
  have F4 := fun_mk (st := s_rows_in) l4 c4 k4
  have bb4 := F4.binds (ps := ["text"]) fun _ _ _ _ _ _ us hl => match us, hl with | [_], _ => rfl
  have F5 := fun_mk (st := s_ticket_in) l5 c5 k5
  have bb5 := F5.binds (ps := ["text"]) fun _ _ _ _ _ _ us hl => match us, hl with | [_], _ => rfl
  have F6 := fun_mk (st := s_queue_in) l6 c6 k6
  have bb6 := F6.binds (ps := ["text"]) fun _ _ _ _ _ _ us hl => match us, hl with | [_], _ => rfl
  have F7 := fun_mk (st := s_l_cell) l7 c7 k7
  have bb7 := F7.binds (ps := ["_law_script", "_law_k"]) fun _ _ _ _ _ _ us hl => match us, hl with | [_, _], _ => rfl
  have F8 := fun_mk (st := s_l_stir) l8 c8 k8
  have bb8 := F8.binds (ps := ["_law_cell_here", "_law_k"]) fun _ _ _ _ _ _ us hl => match us, hl with | [_, _], _ => rfl
  have F9 := fun_mk (st := s_l_row) l9 c9 k9
  have bb9 := F9.binds (ps := ["_law_script", "_law_at", "_law_base", "_law_count"]) fun _ _ _ _ _ _ us hl => match us, hl with | [_, _, _, _], _ => rfl
  have F10 := fun_mk (st := s_l_names) l10 c10 k10
  have bb10 := F10.binds (ps := ["_law_cell_here", "_law_many"]) fun _ _ _ _ _ _ us hl => match us, hl with | [_, _], _ => rfl
  have F11 := fun_mk (st := s_l_text) l11 c11 k11
  have bb11 := F11.binds (ps := ["_law_script", "_law_names_here"]) fun _ _ _ _ _ _ us hl => match us, hl with | [_, _], _ => rfl
  have F12 := fun_mk (st := s_l_spoilt) l12 c12 k12
  have bb12 := F12.binds (ps := ["_law_text_here", "_law_cell_here"]) fun _ _ _ _ _ _ us hl => match us, hl with | [_, _], _ => rfl
  have F13 := fun_mk (st := s_l_figures) l13 c13 k13
  have bb13 := F13.binds (ps := ["_law_word"]) fun _ _ _ _ _ _ us hl => match us, hl with | [_], _ => rfl
  have F14 := fun_mk (st := s_l_name) l14 c14 k14
  have bb14 := F14.binds (ps := ["_law_word"]) fun _ _ _ _ _ _ us hl => match us, hl with | [_], _ => rfl
  have F15 := fun_mk (st := s_l_rows) l15 c15 k15
  have bb15 := F15.binds (ps := ["_law_text_here"]) fun _ _ _ _ _ _ us hl => match us, hl with | [_], _ => rfl
  have F16 := fun_mk (st := s_l_queue) l16 c16 k16
  have bb16 := F16.binds (ps := ["_law_text_here"]) fun _ _ _ _ _ _ us hl => match us, hl with | [_], _ => rfl
  have F17 := fun_mk (st := s_l_read) l17 c17 k17
  have bb17 := F17.binds (ps := ["_law_text_here", "_law_which"]) fun _ _ _ _ _ _ us hl => match us, hl with | [_, _], _ => rfl
  have F18 := fun_mk (st := s_l_right) l18 c18 k18
  have bb18 := F18.binds (ps := ["_law_text_here"]) fun _ _ _ _ _ _ us hl => match us, hl with | [_], _ => rfl
  have F19 := fun_mk (st := s_law) l19 c19 k19
  have xc : XC0 K CT := ⟨⟨ddT, cdT, k0T, k1T, k2T, k3T, k5T, bmT, xl, xmr, xdl, xtl, xok, xin⟩, xkp⟩
  have xi : XI K CT := ⟨xsub, xcl, xga, xgt, xca, xcg, xct, xmo⟩
  have xz : PySem.W.kitOne K (.ref CT) (.ref HE) = some true := kit_true xclH xtyH xsubH
  have U : Exc0 K mg CT HE "NoLine" "HallError" [("NoName", false), ("NoNumber", false)] := ⟨xc, xi, ⟨xse, xnt, xcl, xsub⟩, ⟨xsubH, xntH, xclH, xexH⟩, xz, kit_same, PySem.W.mg_of X G xT, PySem.W.mg_of X G xH, List.forall_mem_cons.mpr ⟨⟨O_NoName, PySem.W.mg_of X G om_NoName, kit_false xse oc_NoName ot_NoName os_NoName⟩, List.forall_mem_cons.mpr ⟨⟨O_NoNumber, PySem.W.mg_of X G om_NoNumber, kit_false xse oc_NoNumber ot_NoNumber os_NoNumber⟩, fun _ h => nomatch h⟩⟩⟩
  refine ⟨PySem.W.fnOf "law" "law" (defArgs s_law) (defBody s_law) (defScope s_law) .none kV19 dc19 pm19 an19 cd19 ct19, fun s v => .of_eq rfl, fun base _ _ => ?_⟩
  have h_is_name : Fx l.prog w K mg base "is_name" 1 1 m_is_name := ⟨f0, _, _, ok_is_name (P := l.prog) (w := w) (base := base) T F0, PySem.W.mg_of X G a0, k0, bb0⟩
  have hx_number_in : Ry l.prog w K mg base (fun _ => CT) "-" "number_in" 3 1 mx_number_in := ⟨f1, _, _, okx_number_in (P := l.prog) (w := w) (base := base) T F1 U, PySem.W.mg_of X G a1, k1, bb1⟩
  have h_number_in : Fx l.prog w K mg base "number_in" 1 1 m_number_in := ⟨f1, _, _, ok_number_in (P := l.prog) (w := w) (base := base) T F1, PySem.W.mg_of X G a1, k1, bb1⟩
  have hx_name_in : Ry l.prog w K mg base (fun _ => CT) "-" "name_in" 3 1 mx_name_in := ⟨f2, _, _, okx_name_in (P := l.prog) (w := w) (base := base) T F2 U h_is_name, PySem.W.mg_of X G a2, k2, bb2⟩
  have h_name_in : Fx l.prog w K mg base "name_in" 2 1 m_name_in := ⟨f2, _, _, ok_name_in (P := l.prog) (w := w) (base := base) T F2 h_is_name, PySem.W.mg_of X G a2, k2, bb2⟩
  have hx_row_in : Ry l.prog w K mg base (fun _ => CT) "-" "row_in" 4 1 mx_row_in := ⟨f3, _, _, okx_row_in (P := l.prog) (w := w) (base := base) T F3 U h_name_in h_number_in hx_number_in hx_name_in, PySem.W.mg_of X G a3, k3, bb3⟩
  have h_row_in : Fx l.prog w K mg base "row_in" 3 1 m_row_in := ⟨f3, _, _, ok_row_in (P := l.prog) (w := w) (base := base) T F3 h_name_in h_number_in, PySem.W.mg_of X G a3, k3, bb3⟩
  have hx_rows_in : Ry l.prog w K mg base (fun _ => CT) "-" "rows_in" 5 1 mx_rows_in := ⟨f4, _, _, okx_rows_in (P := l.prog) (w := w) (base := base) T F4 U h_row_in hx_row_in, PySem.W.mg_of X G a4, k4, bb4⟩
  have h_rows_in : Fx l.prog w K mg base "rows_in" 4 1 m_rows_in := ⟨f4, _, _, ok_rows_in (P := l.prog) (w := w) (base := base) T F4 h_row_in, PySem.W.mg_of X G a4, k4, bb4⟩
  have hx_ticket_in : Ry l.prog w K mg base (fun _ => CT) "-" "ticket_in" 4 1 mx_ticket_in := ⟨f5, _, _, okx_ticket_in (P := l.prog) (w := w) (base := base) T F5 U h_name_in hx_name_in hx_number_in, PySem.W.mg_of X G a5, k5, bb5⟩
  have h_ticket_in : Fx l.prog w K mg base "ticket_in" 3 1 m_ticket_in := ⟨f5, _, _, ok_ticket_in (P := l.prog) (w := w) (base := base) T F5 h_number_in h_name_in, PySem.W.mg_of X G a5, k5, bb5⟩
  have hx_queue_in : Ry l.prog w K mg base (fun _ => CT) "-" "queue_in" 5 1 mx_queue_in := ⟨f6, _, _, okx_queue_in (P := l.prog) (w := w) (base := base) T F6 U h_ticket_in hx_ticket_in, PySem.W.mg_of X G a6, k6, bb6⟩
  have h_queue_in : Fx l.prog w K mg base "queue_in" 4 1 m_queue_in := ⟨f6, _, _, ok_queue_in (P := l.prog) (w := w) (base := base) T F6 h_ticket_in, PySem.W.mg_of X G a6, k6, bb6⟩
  have h_l_cell : Fx l.prog w K mg base "_law_cell" 1 2 m_l_cell := ⟨f7, _, _, ok_l_cell (P := l.prog) (w := w) (base := base) T F7, PySem.W.mg_of X G a7, k7, bb7⟩
  have h_l_stir : Fx l.prog w K mg base "_law_stir" 1 2 m_l_stir := ⟨f8, _, _, ok_l_stir (P := l.prog) (w := w) (base := base) T F8, PySem.W.mg_of X G a8, k8, bb8⟩
  have h_l_row : Fx l.prog w K mg base "_law_row" 2 4 m_l_row := ⟨f9, _, _, ok_l_row (P := l.prog) (w := w) (base := base) T F9 h_l_cell h_l_stir, PySem.W.mg_of X G a9, k9, bb9⟩
  have h_l_names : Fx l.prog w K mg base "_law_names" 1 2 m_l_names := ⟨f10, _, _, ok_l_names (P := l.prog) (w := w) (base := base) T F10, PySem.W.mg_of X G a10, k10, bb10⟩
  have h_l_text : Fx l.prog w K mg base "_law_text" 3 2 m_l_text := ⟨f11, _, _, ok_l_text (P := l.prog) (w := w) (base := base) T F11 h_l_cell h_l_row, PySem.W.mg_of X G a11, k11, bb11⟩
  have h_l_spoilt : Fx l.prog w K mg base "_law_spoilt" 1 2 m_l_spoilt := ⟨f12, _, _, ok_l_spoilt (P := l.prog) (w := w) (base := base) T F12, PySem.W.mg_of X G a12, k12, bb12⟩
  have h_l_figures : Fx l.prog w K mg base "_law_figures" 1 1 m_l_figures := ⟨f13, _, _, ok_l_figures (P := l.prog) (w := w) (base := base) T F13, PySem.W.mg_of X G a13, k13, bb13⟩
  have h_l_name : Fx l.prog w K mg base "_law_name" 1 1 m_l_name := ⟨f14, _, _, ok_l_name (P := l.prog) (w := w) (base := base) T F14, PySem.W.mg_of X G a14, k14, bb14⟩
  have h_l_rows : Fx l.prog w K mg base "_law_rows" 2 1 m_l_rows := ⟨f15, _, _, ok_l_rows (P := l.prog) (w := w) (base := base) T F15 h_l_name h_l_figures, PySem.W.mg_of X G a15, k15, bb15⟩
  have h_l_queue : Fx l.prog w K mg base "_law_queue" 2 1 m_l_queue := ⟨f16, _, _, ok_l_queue (P := l.prog) (w := w) (base := base) T F16 h_l_figures h_l_name, PySem.W.mg_of X G a16, k16, bb16⟩
  have h_l_read : Fx l.prog w K mg base "_law_read" 6 2 m_l_read := ⟨f17, _, _, ok_l_read (P := l.prog) (w := w) (base := base) T F17 U h_rows_in h_queue_in h_number_in hx_rows_in hx_queue_in hx_number_in, PySem.W.mg_of X G a17, k17, bb17⟩
  have h_l_right : Fx l.prog w K mg base "_law_right" 7 1 m_l_right := ⟨f18, _, _, ok_l_right (P := l.prog) (w := w) (base := base) T F18 h_l_read h_l_figures h_l_queue h_l_rows, PySem.W.mg_of X G a18, k18, bb18⟩
  exact out_of (ok_law (P := l.prog) (w := w) (base := base) T F19 h_l_right h_l_spoilt h_l_cell h_l_text h_l_names) (fun ns hl => math_law  ns hl)
theorem walk {l : PySem.W.OpenLaw} {q : Program} {loose : List Str} {XP : (Str -> Option Value) -> Heap -> Prop} {YP : World -> Heap -> Prop} {d : DefRec} {K : Params -> PySem.W.Frag} (hn : l.most = some 63) (hdf : d.params.defaults = [])
    (hY : ∀ (w : World) (h : Heap), YP w h -> (K w.params).In h)
    (F : ∀ (w : World) (mg : Str -> Option Value) (fa : Addr) (h : Heap), (K w.params).In h -> h.Ns mainGlobals mg -> mg d.name = some (.ref fa) ->
      ∃ fd : FuncData, (∀ (s : Shared) (u : Value), BindsTo s fd ⟨[u], []⟩ [("_law_script", u)]) /\ ∀ base : Heap, (K w.params).In base -> base.Ns mainGlobals mg -> FnOk l.prog w (K w.params) mg base CX0 8 fa fd ["_law_script"] (spOut (K w.params))) :
    PySem.W.WalkO q loose XP YP l.row.toRowW d [] (fun f vs => PySem.call f vs) :=
  L2.walk_of (n := 63) (k := 8) (x := "_law_script") (CX := fun _ => CX0) (sp := fun w => spOut (K w.params)) hn (by decide) hdf ⟨rfl, by decide, by decide⟩ hY F (fun _ _ a ns hl _ hS => ⟨a, ns, rfl, hS, hl, fun _ => rfl⟩) fun _ _ _ _ _ z => z
end My
def PySem.W.Fast.tw10300741261315340417 : Unit := ()
def PySem.W.Fast.tw10554082606183659010 : Unit := ()
def PySem.W.Fast.tw939017813628740258 : Unit := ()
def PySem.W.Fast.tw3321353419277792226 : Unit := ()
def PySem.W.Fast.tw7432121717822896291 : Unit := ()
def PySem.W.Fast.tw14147760630908716711 : Unit := ()
def PySem.W.Fast.tw4732773236821609608 : Unit := ()
def PySem.W.Fast.tw3605782863409631208 : Unit := ()
def PySem.W.Fast.tw8860262158339739945 : Unit := ()
def PySem.W.Fast.tw487687141007861577 : Unit := ()
def PySem.W.Fast.tw11432185157123462738 : Unit := ()
def PySem.W.Fast.tw15420871931732383447 : Unit := ()
def PySem.W.Fast.tw12373570434233442103 : Unit := ()
def PySem.W.Fast.tw10564457708276839994 : Unit := ()
def PySem.W.Fast.tw8325579632703531387 : Unit := ()
def PySem.W.Fast.tw14015039860380122939 : Unit := ()
def PySem.W.Fast.tw13716925999025112957 : Unit := ()
def PySem.W.Fast.tw14356198221950160127 : Unit := ()
open PySem PySem.W PyProof.Rows
set_option maxRecDepth 100000 in
set_option maxHeartbeats 0 in
theorem PySem.Challenge.cw_latestturn_k86_texts_refused_holds : PySem.Challenge.rw_latestturn_k86_texts_refused.Holds := by
  w_on; o_law; k_head; (case hw => w_witness2)
  k_fill
  refine My.walk (l := PySem.Challenge.rw_latestturn_k86_texts_refused) rfl rfl (fun w h Y => PySem.W.kIn_of Y) ?F
  case F =>
    intro w mg fa h KX G hmg
    refine' My.all_mk KX G hmg ?a0 ?l0 ?c0 ?k0 ?a1 ?l1 ?c1 ?k1 ?a2 ?l2 ?c2 ?k2 ?a3 ?l3 ?c3 ?k3 ?a4 ?l4 ?c4 ?k4 ?a5 ?l5 ?c5 ?k5 ?a6 ?l6 ?c6 ?k6 ?a7 ?l7 ?c7 ?k7 ?a8 ?l8 ?c8 ?k8 ?a9 ?l9 ?c9 ?k9 ?a10 ?l10 ?c10 ?k10 ?a11 ?l11 ?c11 ?k11 ?a12 ?l12 ?c12 ?k12 ?a13 ?l13 ?c13 ?k13 ?a14 ?l14 ?c14 ?k14 ?a15 ?l15 ?c15 ?k15 ?a16 ?l16 ?c16 ?k16 ?a17 ?l17 ?c17 ?k17 ?a18 ?l18 ?c18 ?k18 ?a19 ?l19 ?c19 ?k19 ?xT ?xH ?xl ?xmr ?xdl ?xtl ?xok ?xin ?xkp ?xsub ?xsubH ?xga ?xgt ?xca ?xcg ?xct ?xmo ?xse ?xnt ?xcl ?xntH ?xclH ?xexH ?xtyH ?om_NoName ?oc_NoName ?ot_NoName ?os_NoName ?om_NoNumber ?oc_NoNumber ?ot_NoNumber ?os_NoNumber ?b_all ?b_enumerate ?b_int ?b_isinstance ?b_len ?b_list ?b_max ?b_min ?b_range ?b_str ?c_FIGURES ?c_LETTERS ?c_MOST_FIGURES ?c_MOST_SIGNS ?c_NOTHING
    (case a0 => k_is)
    (case l0 => k_is)
    (case c0 => k_is)
    (case k0 => k_is)
    (case a1 => k_is)
    (case l1 => k_is)
    (case c1 => k_is)
    (case k1 => k_is)
    (case a2 => k_is)
    (case l2 => k_is)
    (case c2 => k_is)
    (case k2 => k_is)
    (case a3 => k_is)
    (case l3 => k_is)
    (case c3 => k_is)
    (case k3 => k_is)
    (case a4 => k_is)
    (case l4 => k_is)
    (case c4 => k_is)
    (case k4 => k_is)
    (case a5 => k_is)
    (case l5 => k_is)
    (case c5 => k_is)
    (case k5 => k_is)
    (case a6 => k_is)
    (case l6 => k_is)
    (case c6 => k_is)
    (case k6 => k_is)
    (case a7 => k_is)
    (case l7 => k_is)
    (case c7 => k_is)
    (case k7 => k_is)
    (case a8 => k_is)
    (case l8 => k_is)
    (case c8 => k_is)
    (case k8 => k_is)
    (case a9 => k_is)
    (case l9 => k_is)
    (case c9 => k_is)
    (case k9 => k_is)
    (case a10 => k_is)
    (case l10 => k_is)
    (case c10 => k_is)
    (case k10 => k_is)
    (case a11 => k_is)
    (case l11 => k_is)
    (case c11 => k_is)
    (case k11 => k_is)
    (case a12 => k_is)
    (case l12 => k_is)
    (case c12 => k_is)
    (case k12 => k_is)
    (case a13 => k_is)
    (case l13 => k_is)
    (case c13 => k_is)
    (case k13 => k_is)
    (case a14 => k_is)
    (case l14 => k_is)
    (case c14 => k_is)
    (case k14 => k_is)
    (case a15 => k_is)
    (case l15 => k_is)
    (case c15 => k_is)
    (case k15 => k_is)
    (case a16 => k_is)
    (case l16 => k_is)
    (case c16 => k_is)
    (case k16 => k_is)
    (case a17 => k_is)
    (case l17 => k_is)
    (case c17 => k_is)
    (case k17 => k_is)
    (case a18 => k_is)
    (case l18 => k_is)
    (case c18 => k_is)
    (case k18 => k_is)
    (case a19 => k_is)
    (case l19 => k_is)
    (case c19 => k_is)
    (case k19 => k_is)
    (case xT => k_is)
    (case xH => k_is)
    (case xl => k_is)
    (case xmr => rfl)
    (case xdl => rfl)
    (case xtl => kernel_rfl)
    (case xok => kernel_rfl)
    (case xin => k_is)
    (case xkp => k_is)
    (case xsub => k_is)
    (case xsubH => k_is)
    (case xga => k_is)
    (case xgt => k_is)
    (case xca => k_is)
    (case xcg => k_is)
    (case xct => k_is)
    (case xmo => k_is)
    (case xse => k_is)
    (case xnt => k_is)
    (case xcl => k_is)
    (case xntH => k_is)
    (case xclH => k_is)
    (case xexH => k_is)
    (case xtyH => k_is)
    (case om_NoName => k_is)
    (case oc_NoName => k_is)
    (case ot_NoName => k_is)
    (case os_NoName => k_is)
    (case om_NoNumber => k_is)
    (case oc_NoNumber => k_is)
    (case ot_NoNumber => k_is)
    (case os_NoNumber => k_is)
    (case b_all => k_is)
    (case b_enumerate => k_is)
    (case b_int => k_is)
    (case b_isinstance => k_is)
    (case b_len => k_is)
    (case b_list => k_is)
    (case b_max => k_is)
    (case b_min => k_is)
    (case b_range => k_is)
    (case b_str => k_is)
    (case c_FIGURES => k_is)
    (case c_LETTERS => k_is)
    (case c_MOST_FIGURES => k_is)
    (case c_MOST_SIGNS => k_is)
    (case c_NOTHING => k_is)
#print axioms PySem.Challenge.cw_latestturn_k86_texts_refused_holds
end

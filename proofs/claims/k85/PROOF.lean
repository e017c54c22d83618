import PyProof.Rows.All
import Wide.All
import OpenK.AllK
import Wide.FinOn
import Lean
import PyProof.EqAt
import PyProof.EqKinds
import PyProof.TupleCall
import KE.KPairComp
import PyProof.SumWalkG
import PyProof.WalkInts
import PyProof.Rows.SortStr
import PyProof.Rows.SortWalk
import KE.KIntText
import PyProof.Rows.FStr
import PyProof.Rows.StrNews2
import PyProof.CallStr
import PyProof.StrLawsChain
import PySem.Challenge.RW_latestturn_k85_texts_told_and_read
set_option Elab.async false
set_option linter.all false
set_option maxRecDepth 100000
set_option maxHeartbeats 4000000
noncomputable section
namespace L2
open PySem PySem.Spec PyProof.Rows
abbrev Key := Sum Int Str
def keyIs : Key -> Value -> Bool
  | .inl k, v => Value.isInt k v
  | .inr x, v => Value.isStrOf x v
def keyH (w : World) : Key -> Int
  | .inl k => hashInt k
  | .inr x => hashStr w x
theorem keyIs_shape : ∀ {k : Key} {v : Value}, keyIs k v = true -> (∃ i t, k = Sum.inl i /\ v = Value.int i t) ∨ (∃ x t, k = Sum.inr x /\ v = Value.str x t)
  | .inl i, v, h => by
    obtain ⟨t, e⟩ := Value.isInt_shape (k := i) (v := v) h
    exact .inl ⟨i, t, rfl, e⟩
  | .inr x, v, h => by
    obtain ⟨t, e⟩ := Value.isStrOf_shape (x := x) (v := v) h
    exact .inr ⟨x, t, rfl, e⟩
theorem key_ll (a b : Int) : decide ((Sum.inl a : Key) = Sum.inl b) = (a == b) := by
  by_cases e : a = b
  · subst e; simp
  · have h : ¬ (Sum.inl a : Key) = Sum.inl b := fun q => e (Sum.inl.inj q)
    rw [decide_eq_false h]
    exact (beq_eq_false_iff_ne.mpr e).symm
theorem key_rr (a b : Str) : decide ((Sum.inr a : Key) = Sum.inr b) = decide (a = b) := by
  by_cases e : a = b
  · subst e; simp
  · have h : ¬ (Sum.inr a : Key) = Sum.inr b := fun q => e (Sum.inr.inj q)
    rw [decide_eq_false h, decide_eq_false e]
theorem key_lr (a : Int) (b : Str) : decide ((Sum.inl a : Key) = Sum.inr b) = false := decide_eq_false (fun q => nomatch q)
theorem key_rl (a : Str) (b : Int) : decide ((Sum.inr a : Key) = Sum.inl b) = false := decide_eq_false (fun q => nomatch q)
def mixKind (prog : Program) (w : World) : PySem.KeyKind prog w Key where
  is := keyIs
  hash := keyH w
  inj := fun v a b ha hb => by
    rcases keyIs_shape ha with ⟨i, t, rfl, rfl⟩ | ⟨x, t, rfl, rfl⟩
    · rcases keyIs_shape hb with ⟨j, u, rfl, e⟩ | ⟨y, u, rfl, e⟩
      · injection e with e1 _; rw [e1]
      · exact nomatch e
    · rcases keyIs_shape hb with ⟨j, u, rfl, e⟩ | ⟨y, u, rfl, e⟩
      · exact nomatch e
      · injection e with e1 _; rw [e1]
  byValue := fun k v h => by
    rcases keyIs_shape h with ⟨i, t, rfl, rfl⟩ | ⟨x, t, rfl, rfl⟩ <;> rfl
  pyHash := fun hv h => by
    rcases keyIs_shape hv with ⟨i, t, rfl, rfl⟩ | ⟨x, t, rfl, rfl⟩
    · exact wpAny_pyHash_int h
    · exact wpAny_pyHash_str h
  eqBool := fun hu hv h => by
    rcases keyIs_shape hu with ⟨i, t, rfl, rfl⟩ | ⟨x, t, rfl, rfl⟩
    · rcases keyIs_shape hv with ⟨j, u, rfl, rfl⟩ | ⟨y, u, rfl, rfl⟩
      · rw [key_ll] at h; exact wpAny_eqBool_int h
      · rw [key_lr] at h; exact SeqAt.EqAt.int_str i t y u _ _ _ _ h
    · rcases keyIs_shape hv with ⟨j, u, rfl, rfl⟩ | ⟨y, u, rfl, rfl⟩
      · rw [key_rl] at h; exact SeqAt.EqAt.str_int x t j u _ _ _ _ h
      · rw [key_rr] at h; exact wpAny_eqBool_str h
  «strs» := fun k x t v h => by
    rcases keyIs_shape h with ⟨i, u, rfl, e⟩ | ⟨y, u, rfl, e⟩
    · exact nomatch e
    · injection e with e1 _
      subst e1
      cases v <;> rfl
inductive V where
  | non | bl (b : Bool) | int (i : Int) | str (x : Str) | byt (b : Array UInt8) | flt (b : UInt64) | ref (a : Addr) | ty (n : String)
  deriving DecidableEq
def RelV : V -> Value -> Prop
  | .non, u => u = Value.none
  | .bl b, u => u = Value.bool b
  | .int i, u => ∃ t, u = Value.int i t
  | .str x, u => ∃ t, u = Value.str x t
  | .byt b, u => ∃ t, u = Value.bytes b t
  | .flt b, u => ∃ t, u = Value.float b t
  | .ref a, u => u = Value.ref a
  | .ty n, u => u = Value.type n
abbrev Vals : List V -> List Value -> Prop := Paired RelV
theorem Vals.length {xs : List V} {us : List Value} (r : Vals xs us) : xs.length = us.length := Paired.length r
theorem Vals.get : ∀ {xs : List V} {us : List Value} {i : Nat} {x : V}, Vals xs us -> xs[i]? = some x -> ∃ u, us[i]? = some u /\ RelV x u
  | _, _, _, _, .nil, e => by simp at e
  | _, _, 0, _, .cons r _, e => by simp at e; subst e; exact ⟨_, rfl, r⟩
  | _, _, i + 1, x, .cons _ t, e => by
    obtain ⟨u, h1, h2⟩ := Vals.get (i := i) (x := x) t (by simpa using e)
    exact ⟨u, by simpa using h1, h2⟩
theorem Vals.append : ∀ {xs ys : List V} {us ws : List Value}, Vals xs us -> Vals ys ws -> Vals (xs ++ ys) (us ++ ws)
  | _, _, _, _, .nil, s => s
  | _, _, _, _, .cons r t, s => .cons r (Vals.append t s)
theorem Vals.take : ∀ {xs : List V} {us : List Value} (n : Nat), Vals xs us -> Vals (xs.take n) (us.take n)
  | _, _, 0, _ => .nil
  | _, _, _ + 1, .nil => .nil
  | _, _, n + 1, .cons r t => .cons r (Vals.take n t)
theorem Vals.drop : ∀ {xs : List V} {us : List Value} (n : Nat), Vals xs us -> Vals (xs.drop n) (us.drop n)
  | _, _, 0, r => r
  | _, _, _ + 1, .nil => .nil
  | _, _, n + 1, .cons _ t => Vals.drop n t
def RelO : Option V -> Option Value -> Prop
  | some v, some u => RelV v u
  | none, none => True
  | _, _ => False
def KV {κ : Type} : List (κ × V) -> List (κ × Value) -> Prop := Paired fun (p : κ × V) (q : κ × Value) => p.1 = q.1 /\ RelV p.2 q.2
def kV : Key -> V
  | .inl i => .int i
  | .inr x => .str x
inductive HO where
    | lst (xs : List V)
    | tup (xs : List V)
    | dK (kvs : List (Key × V)) | dT (kvs : List (List Key × V))
    | set (S : Int -> Bool) (n : Nat)
    | ins (C dx : Addr) (fs : List (Str × V))
    | own (x : Addr)
    | xd (fs : List (Str × V))
    | met (f x : Addr)
    | rng (lo hi : Int)
    | frz (o : Obj) (u : HO)
    | tbl (ps : Array Value)
    | ext (φ : Heap -> Prop)
abbrev Hp := Addr -> Option HO
def upd (H : Hp) (a : Addr) (o : HO) : Hp := fun b => if b = a then some o else H b
theorem upd_same {H : Hp} {a : Addr} {o : HO} : upd H a o a = some o := by unfold upd; rw [if_pos rfl]
theorem upd_ne {H : Hp} {a b : Addr} {o : HO} (h : b ≠ a) : upd H a o b = H b := by unfold upd; rw [if_neg h]
theorem ne_of_none {H : Hp} {a b : Addr} {o : HO} (h : H a = some o) (h' : H b = none) : a ≠ b := by
  intro e; subst e; rw [h] at h'; cases h'
section
variable (P : Program) (w : World)
def ObjOk (H : Hp) (h : Heap) (a : Addr) : HO -> Prop
  | .lst xs => xs.length <= sizeLine /\ ∃ (its : List Value) (n : Nat), Vals xs its /\ h.get? a = some { cls := .type "list", data := .seq its.toArray n }
  | .tup xs => xs.length <= sizeLine /\ ∃ its : List Value, Vals xs its /\ IsTup h a its.toArray
  | .dK kvs => kvs.length <= sizeLine /\ (a == sysModules) = false /\ ∃ vs, KV kvs vs /\ h.DictOf (mixKind P w) a vs
  | .dT kvs => kvs.length <= sizeLine /\ (a == sysModules) = false /\ ∃ xs : List (List Key × Addr × Value),
      Paired (fun (p : List Key × V) (q : List Key × Addr × Value) => p.1 = q.1 /\ H q.2.1 = some (.tup (p.1.map kV)) /\ RelV p.2 q.2.2) kvs xs /\
      ∃ o es ep, h.get? a = some o /\ o.ExactDict /\ o.data = .dict es ep /\ es.toList = xs.map (entryOfKey (tupleKind (mixKind P w))) /\ (xs.map (·.1)).Nodup
  | .set S n => h.SetOf (intKind P w) a S n
  | .ins C dx fs => H dx = some (.own a) /\ fs.length <= 1000 /\ dx ≠ a /\ h.get? a = some (PySem.W.instObj C dx) /\
      ∃ mA, h.Ns1 dx mA /\ (∀ f, RelO (fs.lookup f) (mA f)) /\ PySem.Within mA (fs.map (·.1))
  | .own _ => ∃ o, h.get? a = some o
  | .xd fs => ∃ mA, h.Ns1 a mA /\ ∀ f, RelO (fs.lookup f) (mA f)
  | .rng lo hi => ∃ t u v, h.get? a = some { cls := .type "range", data := .fields #[.int lo t, .int hi u, .int 1 v] }
  | .frz o u => h.get? a = some o /\ ObjOk H h a u
  | .tbl ps => h.get? a = some { cls := .none, data := .fields ps }
  | .met f x => h.get? a = some (PySem.W.methodObj (.ref f) (.ref x))
  | .ext φ => φ h /\ (∃ o, h.get? a = some o) /\ ∀ h1 h2 : Heap, φ h1 -> (∀ o, h1.get? a = some o -> h2.get? a = some o) -> φ h2
def HOk (H : Hp) (h : Heap) : Prop := ∀ a o, H a = some o -> ObjOk P w H h a o
end
section
variable {P : Program} {w : World} {H H' : Hp} {h h' : Heap} {a : Addr} {o : HO}
theorem ObjOk.lt (x : ObjOk P w H h a o) : a < h.objs.size := by
  cases o with
  | lst xs => obtain ⟨_, _, _, _, e⟩ := x; exact Heap.lt_size e
  | tup xs => obtain ⟨_, _, _, p⟩ := x; exact p.lt
  | dK kvs => obtain ⟨_, _, _, _, o, _, _, e, _⟩ := x; exact Heap.lt_size e
  | dT kvs => obtain ⟨_, _, _, _, o, _, _, e, _⟩ := x; exact Heap.lt_size e
  | set S n => obtain ⟨o, _, _, _, e, _⟩ := x; exact Heap.lt_size e
  | ins C dx fs => obtain ⟨_, _, _, e, _⟩ := x; exact Heap.lt_size e
  | own y => obtain ⟨_, e⟩ := x; exact Heap.lt_size e
  | xd fs => obtain ⟨_, ⟨_, _, _, e, _⟩, _⟩ := x; exact Heap.lt_size e
  | rng lo hi => obtain ⟨_, _, _, e⟩ := x; exact Heap.lt_size e
  | frz ob u => obtain ⟨e, _⟩ := x; exact Heap.lt_size e
  | tbl ps => exact Heap.lt_size (show h.get? a = some _ from x)
  | met f y => exact Heap.lt_size (show h.get? a = some _ from x)
  | ext φ => obtain ⟨_, ⟨_, e⟩, _⟩ := x; exact Heap.lt_size e
theorem Paired.mapP {α β : Type} {F G : α -> β -> Prop} : ∀ {l₁ : List α} {l₂ : List β}, Paired F l₁ l₂ -> (∀ a b, F a b -> G a b) -> Paired G l₁ l₂
  | _, _, .nil, _ => .nil
  | _, _, .cons r t, f => .cons (f _ _ r) (Paired.mapP t f)
theorem ObjOk.stay (x : ObjOk P w H h a o) (k : ∀ b u, (b = a ∨ H b = some (.own a)) -> h.get? b = some u -> h'.get? b = some u)
    (ho : ∀ b, H b = some (.own a) -> H' b = some (.own a)) (ht : ∀ b xs, H b = some (.tup xs) -> H' b = some (.tup xs)) : ObjOk P w H' h' a o := by
  induction o with
  | lst xs => obtain ⟨z, its, n, r, e⟩ := x; exact ⟨z, its, n, r, k _ _ (.inl rfl) e⟩
  | tup xs => obtain ⟨z, its, r, ob, e, c⟩ := x; exact ⟨z, its, r, ob, k _ _ (.inl rfl) e, c⟩
  | dK kvs => obtain ⟨z, y, vs, r, ob, es, ep, e, c⟩ := x; exact ⟨z, y, vs, r, ob, es, ep, k _ _ (.inl rfl) e, c⟩
  | dT kvs =>
    obtain ⟨z, y, xs, r, ob, es, ep, e, c⟩ := x
    exact ⟨z, y, xs, Paired.mapP r fun p q z => ⟨z.1, ht _ _ z.2.1, z.2.2⟩, ob, es, ep, k _ _ (.inl rfl) e, c⟩
  | set S n => obtain ⟨ob, es, ep, t, e, c⟩ := x; exact ⟨ob, es, ep, t, k _ _ (.inl rfl) e, c⟩
  | ins C dx fs =>
    obtain ⟨d, z, ne, e, mA, ⟨od, es, ep, e2, c⟩, r⟩ := x
    exact ⟨ho _ d, z, ne, k _ _ (.inl rfl) e, mA, ⟨od, es, ep, k _ _ (.inr d) e2, c⟩, r⟩
  | own y => obtain ⟨ob, e⟩ := x; exact ⟨ob, k _ _ (.inl rfl) e⟩
  | xd fs => obtain ⟨mA, ⟨od, es, ep, e, c⟩, r⟩ := x; exact ⟨mA, ⟨od, es, ep, k _ _ (.inl rfl) e, c⟩, r⟩
  | rng lo hi => obtain ⟨t, u, v, e⟩ := x; exact ⟨t, u, v, k _ _ (.inl rfl) e⟩
  | frz ob u ih => obtain ⟨e, q⟩ := x; exact ⟨k _ _ (.inl rfl) e, ih q⟩
  | tbl ps =>
    have e : h.get? a = some { cls := .none, data := .fields ps } := x
    show h'.get? a = some { cls := .none, data := .fields ps }
    exact k a _ (.inl rfl) e
  | met f y =>
    have e : h.get? a = some (PySem.W.methodObj (.ref f) (.ref y)) := x
    show h'.get? a = some (PySem.W.methodObj (.ref f) (.ref y))
    exact k a _ (.inl rfl) e
  | ext φ => obtain ⟨p, ⟨o, e⟩, st⟩ := x; exact ⟨st _ _ p fun o q => k _ _ (.inl rfl) q, ⟨o, k _ _ (.inl rfl) e⟩, st⟩
theorem HOk.lt (x : HOk P w H h) (e : H a = some o) : a < h.objs.size := (x a o e).lt
theorem HOk.fresh (x : HOk P w H h) (e : h.objs.size <= a) : H a = none := by
  cases q : H a with
  | none => rfl
  | some u => exact absurd (Nat.lt_of_lt_of_le (x.lt q) e) (Nat.lt_irrefl _)
theorem HOk.kept (x : HOk P w H h) (k : ∀ b u, h.get? b = some u -> h'.get? b = some u) : HOk P w H h' := fun a o e =>
  (x a o e).stay (fun b u _ q => k b u q) (fun _ q => q) fun _ _ q => q
theorem HOk.laid (x : HOk P w H h) (k : ∀ b u, h.get? b = some u -> h'.get? b = some u) (hp : h.objs.size <= a) (new : ObjOk P w (upd H a o) h' a o) : HOk P w (upd H a o) h' := fun b u e => by
  have hn := x.fresh hp
  by_cases hb : b = a
  · subst hb; rw [upd_same] at e; cases e; exact new
  · rw [upd_ne hb] at e
    exact (x b u e).stay (fun c v _ q => k c v q) (fun c q => by rw [upd_ne (ne_of_none q hn)]; exact q) fun c xs q => by rw [upd_ne (ne_of_none q hn)]; exact q
end
def Rd (H : Hp) (a : Addr) (u : HO) : Prop := H a = some u ∨ ∃ o, H a = some (.frz o u)
theorem Rd.ok {P : Program} {w : World} {H : Hp} {h : Heap} {a : Addr} {u : HO} (r : Rd H a u) (x : HOk P w H h) : ObjOk P w H h a u := by
  rcases r with r | ⟨o, r⟩
  · exact x a u r
  · obtain ⟨_, q⟩ := x a _ r
    exact q
def Mut : Option HO -> Prop
  | some (.lst _) => True
  | some (.dK _) => True
  | some (.dT _) => True
  | some (.set _ _) => True
  | some (.ins _ _ _) => True
  | some (.ext _) => True
  | _ => False
section
variable {P : Program} {w : World} {H : Hp} {h h' : Heap} {x e : Addr} {o' : HO}
theorem HOk.write (ok : HOk P w H h) (mu : Mut (H x)) (he : e = x ∨ H e = some (.own x)) (k : ∀ b u, b ≠ e -> h.get? b = some u -> h'.get? b = some u) (heo : ∃ u, h'.get? e = some u)
    (new : ObjOk P w (upd H x o') h' x o') : HOk P w (upd H x o') h' := fun b u q => by
  have nown : ∀ c y, H c = some (.own y) -> c ≠ x := fun c y r z => by subst z; rw [r] at mu; exact mu
  have ntup : ∀ c xs, H c = some (.tup xs) -> c ≠ x := fun c xs r z => by subst z; rw [r] at mu; exact mu
  by_cases hb : b = x
  · subst hb; rw [upd_same] at q; cases q; exact new
  · rw [upd_ne hb] at q
    by_cases hbe : b = e
    · have q' : H b = some (.own x) := by
        rcases he with z | z
        · exact absurd (hbe.trans z) hb
        · rw [hbe]; exact z
      rw [q] at q'; cases q'
      obtain ⟨v, hv⟩ := heo
      exact ⟨v, by rw [hbe]; exact hv⟩
    · refine (ok b u q).stay (fun c v hc r => k c v ?_ r) (fun c r => by rw [upd_ne (nown c b r)]; exact r) fun c xs r => by rw [upd_ne (ntup c xs r)]; exact r
      rcases hc with rfl | hc
      · exact hbe
      · rintro rfl
        rcases he with z | z
        · exact nown c b hc z
        · rw [hc] at z; cases z; exact hb rfl
end
structure Un (fs ex : List Addr) (H H' : Hp) (h h' : Heap) : Prop where
  keep : ∀ b o, h.get? b = some o -> H b = none -> b ∉ fs -> b ∉ ex -> h'.get? b = some o
  slot : ∀ b o, h.get? b = some o -> H b = none -> b ∈ fs -> b ∉ ex -> ∃ sl, h'.get? b = some { o with slots := sl }
  free : ∀ b o, h.get? b = some o -> H b = none -> b ∉ ex -> H' b = none
  there : ∀ b o, h.get? b = some o -> b ∉ ex -> ∃ o', h'.get? b = some o'
  tups : ∀ b xs, H b = some (.tup xs) -> H' b = some (.tup xs)
  frzs : ∀ b o u, H b = some (.frz o u) -> H' b = some (.frz o u)
  tbls : ∀ b ps, H b = some (.tbl ps) -> ∃ more, H' b = some (.tbl (ps ++ more))
section
variable {fs fs' ex ex' : List Addr} {H H1 H2 : Hp} {h h1 h2 h' : Heap} {a x e : Addr} {o : HO}
theorem Un.any (u : Un fs ex H H1 h h1) {b : Addr} {ob : Obj} (q : h.get? b = some ob) (n : H b = none) (hx : b ∉ ex) : ∃ sl, h1.get? b = some { ob with slots := sl } := by
  by_cases hb : b ∈ fs
  · exact u.slot b ob q n hb hx
  · exact ⟨ob.slots, u.keep b ob q n hb hx⟩
theorem Un.kept (k : ∀ b u, h.get? b = some u -> h'.get? b = some u) : Un fs ex H H h h' :=
  ⟨fun b ob q _ _ _ => k b ob q, fun b ob q _ _ _ => ⟨ob.slots, k b ob q⟩, fun _ _ _ n _ => n, fun b ob q _ => ⟨ob, k b ob q⟩, fun _ _ q => q, fun _ _ _ q => q, fun _ ps q => ⟨#[], by rw [q]; simp⟩⟩
theorem Un.refl : Un fs ex H H h h := Un.kept fun _ _ q => q
theorem Un.laid (k : ∀ b u, h.get? b = some u -> h'.get? b = some u) (hp : h.objs.size <= a) (hn : H a = none) : Un fs ex H (upd H a o) h h' where
  keep := fun b u q _ _ _ => k b u q
  slot := fun b u q _ _ _ => ⟨u.slots, k b u q⟩
  free := fun b u q n _ => by rw [upd_ne (Nat.ne_of_lt (Nat.lt_of_lt_of_le (Heap.lt_size q) hp))]; exact n
  there := fun b u q _ => ⟨u, k b u q⟩
  tups := fun b xs q => by rw [upd_ne (ne_of_none q hn)]; exact q
  frzs := fun b u xs q => by rw [upd_ne (ne_of_none q hn)]; exact q
  tbls := fun b ps q => ⟨#[], by rw [upd_ne (ne_of_none q hn), q]; simp⟩
theorem Un.write (mu : Mut (H x)) (he : e = x ∨ H e = some (.own x)) (k : ∀ b u, b ≠ e -> h.get? b = some u -> h'.get? b = some u) (heo : ∃ u, h'.get? e = some u) : Un fs ex H (upd H x o) h h' := by
  have hx : ∀ b, H b = none -> b ≠ x := fun b n z => by subst z; rw [n] at mu; exact mu
  have hb : ∀ b, H b = none -> b ≠ e := fun b n z => by
    subst z
    rcases he with r | r
    · exact hx b n r
    · rw [n] at r; cases r
  have hm : ∀ b u, H b = some u -> ¬ Mut (some u) -> b ≠ x := fun b u q nm z => by subst z; rw [q] at mu; exact nm mu
  refine ⟨fun b u q n _ _ => k b u (hb b n) q, fun b u q n _ _ => ⟨u.slots, k b u (hb b n) q⟩, fun b u q n _ => by rw [upd_ne (hx b n)]; exact n, fun b u q _ => ?_,
    fun b xs q => by rw [upd_ne (hm b _ q fun z => z)]; exact q, fun b u xs q => by rw [upd_ne (hm b _ q fun z => z)]; exact q, fun b ps q => ⟨#[], by rw [upd_ne (hm b _ q fun z => z), q]; simp⟩⟩
  by_cases hbe : b = e
  · subst hbe; exact heo
  · exact ⟨u, k b u hbe q⟩
end
def trk (h : Heap) (H : Hp) : List Addr := (List.range h.objs.size).filter fun a => (H a).isSome
def hidT (h : Heap) (H : Hp) : Heap := PySem.W.hideAll h (trk h H)
theorem hidT_size (h : Heap) (H : Hp) : (hidT h H).objs.size = h.objs.size := PySem.W.hideAll_size _ _
theorem hidT_get {h : Heap} {H : Hp} {b : Addr} {o : Obj} (e : h.get? b = some o) (n : H b = none) : (hidT h H).get? b = some o :=
  PySem.W.hideAll_get _ e fun hm => by
    have q : (H b).isSome = true := (List.mem_filter.mp hm).2
    rw [n] at q; simp at q
theorem of_hidT {h : Heap} {H : Hp} {b : Addr} {o : Obj} (e : (hidT h H).get? b = some o) : h.get? b = some o /\ H b = none := by
  have e' : h.get? b = some o := PySem.W.of_hideAll (trk h H) e
  refine ⟨e', ?_⟩
  cases q : H b with
  | none => rfl
  | some x =>
    have hm : b ∈ trk h H := List.mem_filter.mpr ⟨List.mem_range.mpr (Heap.lt_size e'), by simp [q]⟩
    have z : (hidT h H).get? b = none := PySem.W.hideAll_none (trk h H) hm
    rw [z] at e; cases e
def allNews (g h : Heap) (L : Addr) : List (Addr × Obj) := (List.range h.objs.size).filterMap fun a => if a = L ∨ (g.get? a).isSome = true then none else (h.get? a).map fun o => (a, o)
def rest (g h : Heap) (L d : Addr) : List (Addr × Obj) := (allNews g h L).filter fun p => decide (p.1 ≠ d)
structure Mod (K : PySem.W.Frag) (mg : Str -> Option Value) (base : Heap) : Prop where
  kin : K.In base
  glob : base.Ns mainGlobals mg
  blt : ∃ mb, base.Ns builtinsNs mb /\ ∀ x : Str, x ≠ "__name__" -> mb x = bootBuiltins x
  nolimit : base.NoLimit
structure Cx where
  prog : Program
  w : World
  K : PySem.W.Frag
  mg : Str -> Option Value
  base : Heap
  A : Around
  N : List Str
  s₀ : Shared
  H₀ : Hp
  env : Env
  outer : List Env
  stack : List Env
  ex : List Addr
  fn : Str -> Bool
  calm : Bool
  pn : List (Addr × Obj)
  xe : Value -> Shared -> Prop
def frs (l : List Env) : List Addr := l.filterMap (·.frame)
abbrev Cx.fs (X : Cx) : List Addr := frs X.outer
def Vis (sc : Scope) (x : Str) : Prop := sc.names.lookup x = some .local ∨ sc.names.lookup x = some .cell ∨ sc.names.lookup x = some .free
def Loc (sc : Scope) (x : Str) : Prop := sc.names.lookup x = some .local ∨ sc.names.lookup x = some .cell
def Look (env : Env) (h : Heap) (m : Str -> Option Value) (x : Str) (u : Value) : Prop :=
  (env.kindOf x = some .local /\ m x = some u) ∨ ((env.kindOf x = some .cell ∨ env.kindOf x = some .free) /\ ∃ c, env.cells.lookup x = some c /\ h.IsCell c (some u))
structure Cx.Ok (X : Cx) : Prop where
  mod : Mod X.K X.mg X.base
  kind : X.env.scope.kind = .function
  glob : X.env.globals = mainGlobals
  blt : X.env.builtins = builtinsNs
  above : X.s₀.heap.objs.size <= X.env.locals
  inj : ∀ x y c, X.env.cells.lookup x = some c -> X.env.cells.lookup y = some c -> x = y
  has : ∀ x, (X.env.kindOf x = some .cell ∨ X.env.kindOf x = some .free) -> ∃ c, X.env.cells.lookup x = some c
  cab : ∀ x c, X.fn x = true -> X.env.cells.lookup x = some c -> X.s₀.heap.objs.size <= c
  hd : X.calm = true -> X.A.handled = none
  frames : X.A.frames = some X.stack
  stk : X.stack = X.outer ∨ (X.stack = X.env :: X.outer /\ X.env.frame = some X.env.locals)
  exf : ∀ b ∈ X.ex, b ≠ X.env.locals /\ ∀ x c, X.env.cells.lookup x = some c -> c ≠ b
  bs : ∀ b o, X.base.get? b = some o -> X.s₀.heap.get? b = some o /\ X.H₀ b = none
  bsz : X.base.objs.size <= X.s₀.heap.objs.size
  noex : ∀ b o, X.base.get? b = some o -> b ∉ X.ex
  exfs : ∀ b ∈ X.ex, b ∉ X.fs
  funs : X.s₀.heap.FunFrames X.base X.outer
  frf : ∀ b ∈ X.fs, X.H₀ b = none
structure Inv (X : Cx) (pins : List (Addr × Obj)) (σ : List (Option V)) (H : Hp) (s : Shared) : Prop where
  ok : X.Ok
  os : s.os = X.s₀.os
  bare : AllBare s.gens
  base : Un X.fs X.ex X.H₀ H X.s₀.heap s.heap
  loc : ∃ m, s.heap.Ns X.env.locals m /\ ∀ (i : Nat) (x : Str) (v : V), X.N[i]? = some x -> σ[i]? = some (some v) -> Vis X.env.scope x -> ∃ u, RelV v u /\ Look X.env s.heap m x u
  cell : ∀ x c, X.env.cells.lookup x = some c -> ∃ v, s.heap.IsCell c v
  free : H X.env.locals = none
  freeC : ∀ x c, X.env.cells.lookup x = some c -> H c = none
  pin : ∀ p ∈ X.pn ++ pins, s.heap.get? p.1 = some p.2 /\ H p.1 = none /\ p.1 ≠ X.env.locals /\ p.1 ∉ X.fs /\ ∀ v, p.2.data ≠ .cell v
  hok : HOk X.prog X.w H s.heap
  len : σ.length = X.N.length
section
variable {X : Cx} {pins : List (Addr × Obj)} {σ : List (Option V)} {H H' : Hp} {s : Shared} {h' : Heap}
theorem Cx.Ok.nofr (ok : X.Ok) {b : Addr} {o : Obj} (e : X.base.get? b = some o) : b ∉ X.fs := fun hb => by
  have := (ok.funs.mem hb).1
  rw [e] at this; cases this
theorem Inv.bs (I : Inv X pins σ H s) : ∀ b o, X.base.get? b = some o -> s.heap.get? b = some o /\ H b = none := fun b o e =>
  ⟨I.base.keep b o (I.ok.bs b o e).1 (I.ok.bs b o e).2 (I.ok.nofr e) (I.ok.noex b o e), I.base.free b o (I.ok.bs b o e).1 (I.ok.bs b o e).2 (I.ok.noex b o e)⟩
theorem Inv.bk (I : Inv X pins σ H s) : ∀ b o, X.base.get? b = some o -> s.heap.get? b = some o := fun b o e => (I.bs b o e).1
theorem Inv.mod (I : Inv X pins σ H s) : Mod X.K X.mg X.base := I.ok.mod
theorem Inv.kIn (I : Inv X pins σ H s) : X.K.In s.heap := I.ok.mod.kin.keeps I.bk
theorem Inv.lt (I : Inv X pins σ H s) : X.env.locals < s.heap.objs.size := let ⟨_, hn, _⟩ := I.loc; hn.lt
theorem Inv.sz (I : Inv X pins σ H s) : X.s₀.heap.objs.size <= s.heap.objs.size := Nat.le_trans I.ok.above (Nat.le_of_lt I.lt)
theorem Inv.nofs (I : Inv X pins σ H s) {a : Addr} (h : s.heap.objs.size <= a) : a ∉ X.fs := fun hb => by
  obtain ⟨_, o, ho, _⟩ := I.ok.funs.mem hb
  exact absurd (Nat.lt_of_lt_of_le (Heap.lt_size ho) (Nat.le_trans I.sz h)) (Nat.lt_irrefl _)
theorem Inv.cne (I : Inv X pins σ H s) : ∀ x c, X.env.cells.lookup x = some c -> c ≠ X.env.locals := fun x c e z => by
  obtain ⟨v, o, ho, hd⟩ := I.cell x c e
  obtain ⟨m, ⟨o', es, ep, ho', hd', _⟩, _⟩ := I.loc
  rw [z, ho'] at ho; cases ho; rw [hd'] at hd; cases hd
theorem Inv.funs (I : Inv X pins σ H s) : s.heap.FunFrames X.base X.outer := by
  have all : ∀ (l : List Env), (∀ b ∈ frs l, b ∈ X.fs) -> X.s₀.heap.FunFrames X.base l -> s.heap.FunFrames X.base l := by
    intro l
    induction l with
    | nil => intro _ _; trivial
    | cons env r ih =>
      intro hs hl
      obtain ⟨hk, ⟨L, o, hf, hn, ho, hd⟩, hr⟩ := hl
      have hL : L ∈ X.fs := hs L (by unfold frs; rw [List.filterMap_cons, hf]; exact List.mem_cons_self)
      obtain ⟨sl, e⟩ := I.base.slot L o ho (I.ok.frf L hL) hL fun z => I.ok.exfs L z hL
      exact ⟨hk, ⟨L, _, hf, hn, e, hd⟩, ih (fun b hb => hs b (by unfold frs; rw [List.filterMap_cons, hf]; exact List.mem_cons_of_mem _ hb)) hr⟩
  exact all X.outer (fun _ hb => hb) I.ok.funs
theorem Inv.stack (I : Inv X pins σ H s) : s.heap.FunFrames X.base X.stack := by
  rcases I.ok.stk with e | ⟨e, hf⟩
  · rw [e]; exact I.funs
  · rw [e]
    obtain ⟨m, hn, _⟩ := I.loc
    refine .cons (by rw [I.ok.kind]; decide) hf hn ?_ I.funs
    exact Heap.get?_none_of_le (Nat.le_trans I.ok.bsz I.ok.above)
theorem Inv.stkSub (I : Inv X pins σ H s) : ∀ b ∈ frs X.stack, b ∈ X.env.locals :: X.fs := fun b hb => by
  rcases I.ok.stk with e | ⟨e, hf⟩
  · rw [e] at hb; exact List.mem_cons_of_mem _ hb
  · rw [e] at hb
    unfold frs at hb
    rw [List.filterMap_cons, hf] at hb
    exact hb
theorem Inv.stkFree (I : Inv X pins σ H s) : ∀ b ∈ frs X.stack, H b = none := fun b hb => by
  rcases List.mem_cons.mp (I.stkSub b hb) with e | hb
  · rw [e]; exact I.free
  · obtain ⟨_, o, ho, _⟩ := I.ok.funs.mem hb
    exact I.base.free b o ho (I.ok.frf b hb) fun z => I.ok.exfs b z hb
theorem Inv.step {g' : Array GenState} {t' : Nat} {d' : Drawn} {ch : List Addr} (I : Inv X pins σ H s)
    (hch : ∀ b ∈ ch, (b ∈ X.ex ∨ X.s₀.heap.objs.size <= b) /\ b ≠ X.env.locals /\ (∀ x c, X.env.cells.lookup x = some c -> c ≠ b) /\ ∀ p ∈ X.pn ++ pins, p.1 ≠ b)
    (keep : ∀ b o, b ≠ X.env.locals -> b ∉ X.fs -> b ∉ ch -> s.heap.get? b = some o -> H b = none -> h'.get? b = some o)
    (slot : ∀ b o, b ≠ X.env.locals -> b ∈ X.fs -> b ∉ ch -> s.heap.get? b = some o -> H b = none -> ∃ sl, h'.get? b = some { o with slots := sl }) (free : ∀ b o, b ∉ ch -> s.heap.get? b = some o -> H b = none -> H' b = none)
    (there : ∀ b o, b ∉ ch -> s.heap.get? b = some o -> ∃ o', h'.get? b = some o')
    (tups : ∀ b xs, H b = some (.tup xs) -> H' b = some (.tup xs)) (frzs : ∀ b o u, H b = some (.frz o u) -> H' b = some (.frz o u)) (tbls : ∀ b ps, H b = some (.tbl ps) -> ∃ more, H' b = some (.tbl (ps ++ more)))
    (ns : ∀ m, s.heap.Ns X.env.locals m -> h'.Ns X.env.locals m) (hok : HOk X.prog X.w H' h') (hg : AllBare g') :
    Inv X pins σ H' { s with heap := h', gens := g', drawn := d', toks := t' } := by
  have neL : ∀ b o, X.s₀.heap.get? b = some o -> b ≠ X.env.locals := fun b o e => Nat.ne_of_lt (Nat.lt_of_lt_of_le (Heap.lt_size e) I.ok.above)
  have neC : ∀ b o, X.s₀.heap.get? b = some o -> b ∉ X.ex -> b ∉ ch := fun b o e hx hb => by
    rcases (hch b hb).1 with z | z
    · exact hx z
    · exact absurd (Nat.lt_of_lt_of_le (Heap.lt_size e) z) (Nat.lt_irrefl _)
  have cellK : ∀ x c, X.env.cells.lookup x = some c -> ∀ v, s.heap.IsCell c v -> h'.IsCell c v := fun x c e v ⟨o, ho, hd⟩ => by
    have nch : c ∉ ch := fun z => (hch c z).2.2.1 x c e rfl
    by_cases hc : c ∈ X.fs
    · obtain ⟨sl, q⟩ := slot c o (I.cne x c e) hc nch ho (I.freeC x c e)
      exact ⟨_, q, hd⟩
    · exact ⟨o, keep c o (I.cne x c e) hc nch ho (I.freeC x c e), hd⟩
  refine ⟨I.ok, I.os, hg, ⟨fun b o e n hb hx => ?_, fun b o e n hb hx => ?_, fun b o e n hx => ?_, fun b o e hx => ?_, fun b xs e => tups b xs (I.base.tups b xs e), fun b o xs e => frzs b o xs (I.base.frzs b o xs e), fun b ps e => ?_⟩, ?_, fun x c e => ?_, ?_, fun x c e => ?_, fun p hp => ?_, hok, I.len⟩
  · exact keep b o (neL b o e) hb (neC b o e hx) (I.base.keep b o e n hb hx) (I.base.free b o e n hx)
  · obtain ⟨sl, e1⟩ := I.base.slot b o e n hb hx
    obtain ⟨sl', e2⟩ := slot b _ (neL b o e) hb (neC b o e hx) e1 (I.base.free b o e n hx)
    exact ⟨sl', e2⟩
  · obtain ⟨o', e1⟩ := I.base.there b o e hx
    exact free b o' (neC b o e hx) e1 (I.base.free b o e n hx)
  · obtain ⟨o', e1⟩ := I.base.there b o e hx
    exact there b o' (neC b o e hx) e1
  · obtain ⟨m1, e1⟩ := I.base.tbls b ps e
    obtain ⟨m2, e2⟩ := tbls b _ e1
    exact ⟨m1 ++ m2, by rw [e2, Array.append_assoc]⟩
  · obtain ⟨m, hn, hl⟩ := I.loc
    refine ⟨m, ns m hn, fun i x v e1 e2 e3 => ?_⟩
    obtain ⟨u, r, l⟩ := hl i x v e1 e2 e3
    refine ⟨u, r, ?_⟩
    rcases l with l | ⟨k, c, e, z⟩
    · exact .inl l
    · exact .inr ⟨k, c, e, cellK x c e _ z⟩
  · obtain ⟨v, z⟩ := I.cell x c e
    exact ⟨v, cellK x c e v z⟩
  · obtain ⟨m, ⟨o, _, _, ho, _⟩, _⟩ := I.loc
    exact free _ o (fun z => (hch _ z).2.1 rfl) ho I.free
  · obtain ⟨v, o, ho, hd⟩ := I.cell x c e
    exact free c o (fun z => (hch c z).2.2.1 x c e rfl) ho (I.freeC x c e)
  · obtain ⟨e, n, ne, nf, d⟩ := I.pin p hp
    have nch : p.1 ∉ ch := fun z => (hch p.1 z).2.2.2 p hp rfl
    exact ⟨keep p.1 p.2 ne nf nch e n, free p.1 p.2 nch e n, ne, nf, d⟩
theorem Inv.un {t' : Nat} (I : Inv X pins σ H s) (u : Un X.fs [] H H' s.heap h') (hok : HOk X.prog X.w H' h') : Inv X pins σ H' { s with heap := h', toks := t' } := by
  obtain ⟨m, ⟨o, es, ep, ho, r⟩, _⟩ := id I.loc
  obtain ⟨sl, hL⟩ := u.any ho I.free (by simp)
  exact I.step (g' := s.gens) (d' := s.drawn) (ch := []) (fun _ z => nomatch z) (fun b o _ hb _ e n => u.keep b o e n hb (by simp)) (fun b o _ hb _ e n => u.slot b o e n hb (by simp)) (fun b o _ e n => u.free b o e n (by simp)) (fun b o _ e => u.there b o e (by simp)) u.tups u.frzs u.tbls (fun m' hm => by
    obtain ⟨o', es', ep', ho', r'⟩ := hm
    rw [ho] at ho'; cases ho'
    exact ⟨_, es', ep', hL, r'⟩) hok I.bare
theorem Inv.call {g' : Array GenState} {t' : Nat} {d' : Drawn} {ch : List Addr} (I : Inv X pins σ H s) (u : Un (frs X.stack) ch H H' s.heap h') (hok : HOk X.prog X.w H' h') (hg : AllBare g')
    (hch : ∀ b ∈ ch, (b ∈ X.ex ∨ X.s₀.heap.objs.size <= b) /\ b ≠ X.env.locals /\ (∀ x c, X.env.cells.lookup x = some c -> c ≠ b) /\ ∀ p ∈ X.pn ++ pins, p.1 ≠ b) :
    Inv X pins σ H' { s with heap := h', gens := g', drawn := d', toks := t' } := by
  obtain ⟨m, ⟨o, es, ep, ho, r⟩, _⟩ := id I.loc
  obtain ⟨sl, hL⟩ := u.any ho I.free fun z => (hch _ z).2.1 rfl
  exact I.step (ch := ch) hch (fun b o hL hb hc e n => u.keep b o e n (fun z => (List.mem_cons.mp (I.stkSub b z)).elim hL hb) hc) (fun b o _ _ hc e n => u.any e n hc) (fun b o hc e n => u.free b o e n hc) (fun b o hc e => u.there b o e hc) u.tups u.frzs u.tbls (fun m' hm => by
    obtain ⟨o', es', ep', ho', r'⟩ := hm
    rw [ho] at ho'; cases ho'
    exact ⟨_, es', ep', hL, r'⟩) hok hg
theorem Inv.turned {t' : Nat} {it : Addr} (I : Inv X pins σ H s) (k : ∀ b o, b ≠ it -> s.heap.get? b = some o -> h'.get? b = some o) (hn : H it = none) (hL : it ≠ X.env.locals)
    (h1 : it ∈ X.ex ∨ X.s₀.heap.objs.size <= it) (h2 : ∀ x c, X.env.cells.lookup x = some c -> c ≠ it) (h3 : ∀ p ∈ X.pn ++ pins, p.1 ≠ it) : Inv X pins σ H { s with heap := h', toks := t' } := by
  have nit : ∀ b u, H b = some u -> b ≠ it := fun b u e z => by rw [z, hn] at e; cases e
  refine I.step (g' := s.gens) (d' := s.drawn) (ch := [it]) (fun b hb => ?_) (fun b o _ _ hc e _ => k b o (fun z => hc (by simp [z])) e) (fun b o _ _ hc e _ => ⟨o.slots, k b o (fun z => hc (by simp [z])) e⟩) (fun _ _ _ _ n => n)
    (fun b o hc e => ⟨o, k b o (fun z => hc (by simp [z])) e⟩) (fun _ _ e => e) (fun _ _ _ e => e) (fun b ps e => ⟨#[], by rw [e]; simp⟩) (fun m hm => ?_) (fun b u e => ?_) I.bare
  · have e : b = it := by simpa using hb
    subst e
    exact ⟨h1, hL, h2, h3⟩
  · obtain ⟨o, es, ep, ho, r⟩ := hm
    exact ⟨o, es, ep, k _ o (Ne.symm hL) ho, r⟩
  · refine (I.hok b u e).stay (fun c v hc q => k c v ?_ q) (fun _ q => q) fun _ _ q => q
    rcases hc with z | z
    · rw [z]; exact nit b u e
    · exact nit c _ z
theorem Inv.tok (I : Inv X pins σ H s) (t : Nat) : Inv X pins σ H { s with toks := t } := I.un (h' := s.heap) (t' := t) Un.refl I.hok
theorem Inv.kept {t' : Nat} (I : Inv X pins σ H s) (k : ∀ b u, s.heap.get? b = some u -> h'.get? b = some u) : Inv X pins σ H { s with heap := h', toks := t' } := I.un (Un.kept k) (I.hok.kept k)
theorem Inv.laid {a : Addr} {o : HO} {t' : Nat} (I : Inv X pins σ H s) (k : ∀ b u, s.heap.get? b = some u -> h'.get? b = some u) (hp : s.heap.objs.size <= a) (new : ObjOk X.prog X.w (upd H a o) h' a o) :
    Inv X pins σ (upd H a o) { s with heap := h', toks := t' } := I.un (Un.laid k hp (I.hok.fresh hp)) (I.hok.laid k hp new)
theorem Inv.write {x e : Addr} {o : HO} {t' : Nat} (I : Inv X pins σ H s) (mu : Mut (H x)) (he : e = x ∨ H e = some (.own x)) (k : ∀ b u, b ≠ e -> s.heap.get? b = some u -> h'.get? b = some u) (heo : ∃ u, h'.get? e = some u)
    (new : ObjOk X.prog X.w (upd H x o) h' x o) : Inv X pins σ (upd H x o) { s with heap := h', toks := t' } := I.un (Un.write mu he k heo) (I.hok.write mu he k heo new)
theorem Inv.pins_of {pins' : List (Addr × Obj)} (I : Inv X pins σ H s) (h : ∀ p ∈ pins', s.heap.get? p.1 = some p.2 /\ H p.1 = none /\ p.1 ≠ X.env.locals /\ p.1 ∉ X.fs /\ ∀ v, p.2.data ≠ .cell v) : Inv X pins' σ H s :=
  ⟨I.ok, I.os, I.bare, I.base, I.loc, I.cell, I.free, I.freeC, fun p hp => (List.mem_append.mp hp).elim (fun z => I.pin p (List.mem_append_left _ z)) (h p), I.hok, I.len⟩
theorem nodup_ix {N : List Str} (hN : N.Nodup) {i j : Nat} {x : Str} (a : N[i]? = some x) (b : N[j]? = some x) : i = j := by
  obtain ⟨h1, e1⟩ := List.getElem?_eq_some_iff.mp a
  obtain ⟨h2, e2⟩ := List.getElem?_eq_some_iff.mp b
  exact (List.getElem_inj hN).mp (e1.trans e2.symm)
theorem store_ok2 {M : Model} {A : Around} {E : Value -> Shared -> Prop} {i : Nat} {x : Str} {v : V} {u : Value} {Q : Unit -> Shared -> Prop} (I : Inv X pins σ H s) (hN : X.N.Nodup) (hi : X.N[i]? = some x) (hx : Loc X.env.scope x) (r : RelV v u)
    (h : ∀ s', Inv X pins (σ.set i (some v)) H s' -> (∃ a, Heap.SameBut a s.heap s'.heap /\ (a = X.env.locals ∨ X.env.cells.lookup x = some a)) -> Q () s') (hf : X.fn x = true ∨ X.env.scope.names.lookup x = some .local := by first | exact .inl rfl | exact .inr rfl | assumption) : wpAny M A (storeName X.env x u) Q E s := by
  obtain ⟨m, hn, hl⟩ := id I.loc
  have hcls : (X.env.scope.kind == .class || (X.env.scope.kind == .module && X.env.locals != X.env.globals)) = false := by rw [I.ok.kind]; rfl
  have hiσ : i < σ.length := by rw [I.len]; exact (List.getElem?_eq_some_iff.mp hi).1
  have cne := I.cne
  have tracked : ∀ {a : Addr} {h' : Heap}, (∃ o, s.heap.get? a = some o /\ H a = none) -> Heap.SameBut a s.heap h' -> HOk X.prog X.w H h' := fun {a h'} ha hs b ob e => by
    obtain ⟨_, _, hfree⟩ := ha
    refine (I.hok b ob e).stay (fun c w' hc q => (hs.2 c ?_).trans q) (fun _ q => q) fun _ _ q => q
    rintro rfl
    rcases hc with rfl | hc
    · rw [hfree] at e; cases e
    · rw [hfree] at hc; cases hc
  rcases hx with hk | hk
  · refine wpAny_storeName_local hk hn (fun h' hn' hs => ?_) hcls
    obtain ⟨oL, _, _, hoL, _⟩ := id hn
    refine h _ ⟨I.ok, I.os, I.bare, ⟨fun b o e n hb hx => ?_, fun b o e n hb hx => ?_, I.base.free, fun b o e hx => ?_, I.base.tups, I.base.frzs, I.base.tbls⟩, ⟨_, hn', fun j y v' e1 e2 e3 => ?_⟩, fun y c e => ?_, I.free, I.freeC, fun p hp => ?_, tracked ⟨oL, hoL, I.free⟩ hs, by simpa using I.len⟩ ⟨_, hs, .inl rfl⟩
    · exact (hs.2 b (Nat.ne_of_lt (Nat.lt_of_lt_of_le (Heap.lt_size e) I.ok.above))).trans (I.base.keep b o e n hb hx)
    · obtain ⟨sl, e1⟩ := I.base.slot b o e n hb hx
      exact ⟨sl, (hs.2 b (Nat.ne_of_lt (Nat.lt_of_lt_of_le (Heap.lt_size e) I.ok.above))).trans e1⟩
    · obtain ⟨o', e1⟩ := I.base.there b o e hx
      exact ⟨o', (hs.2 b (Nat.ne_of_lt (Nat.lt_of_lt_of_le (Heap.lt_size e) I.ok.above))).trans e1⟩
    · by_cases hj : j = i
      · subst hj
        rw [hi] at e1; cases e1
        rw [List.getElem?_set_self hiσ] at e2
        cases e2
        exact ⟨u, r, .inl ⟨hk, by simp⟩⟩
      · rw [List.getElem?_set_ne (Ne.symm hj)] at e2
        obtain ⟨u', r', q⟩ := hl j y v' e1 e2 e3
        refine ⟨u', r', ?_⟩
        rcases q with ⟨k, e⟩ | ⟨k, c, e, z⟩
        · refine .inl ⟨k, ?_⟩
          have : y ≠ x := fun e => hj (nodup_ix hN e1 (e ▸ hi))
          simp [this, e]
        · exact .inr ⟨k, c, e, z.sameBut hs (cne y c e)⟩
    · obtain ⟨w', z⟩ := I.cell y c e
      exact ⟨w', z.sameBut hs (cne y c e)⟩
    · obtain ⟨e, n, ne, nf, d⟩ := I.pin p hp
      exact ⟨(hs.2 p.1 ne).trans e, n, ne, nf, d⟩
  · have hfn : X.fn x = true := by
      rcases hf with z | z
      · exact z
      · rw [z] at hk; cases hk
    obtain ⟨c, hc⟩ := I.ok.has x (.inl hk)
    obtain ⟨w', z⟩ := I.cell x c hc
    refine wpAny_storeName_cell I.ok.kind hk hc z (fun h' hc' hs => ?_)
    obtain ⟨oc, hoc, hocd⟩ := id z
    refine h { s with heap := h' } ⟨I.ok, I.os, I.bare, ⟨fun b o e n hb hx => ?_, fun b o e n hb hx => ?_, I.base.free, fun b o e hx => ?_, I.base.tups, I.base.frzs, I.base.tbls⟩, ⟨m, hn.sameBut hs (Ne.symm (cne x c hc)), fun j y v' e1 e2 e3 => ?_⟩, fun y c' e => ?_, I.free, I.freeC, fun p hp => ?_, tracked ⟨oc, hoc, I.freeC x c hc⟩ hs, by simpa using I.len⟩ ⟨c, hs, .inr hc⟩
    · exact (hs.2 b (Nat.ne_of_lt (Nat.lt_of_lt_of_le (Heap.lt_size e) (I.ok.cab x c hfn hc)))).trans (I.base.keep b o e n hb hx)
    · obtain ⟨sl, e1⟩ := I.base.slot b o e n hb hx
      exact ⟨sl, (hs.2 b (Nat.ne_of_lt (Nat.lt_of_lt_of_le (Heap.lt_size e) (I.ok.cab x c hfn hc)))).trans e1⟩
    · obtain ⟨o', e1⟩ := I.base.there b o e hx
      exact ⟨o', (hs.2 b (Nat.ne_of_lt (Nat.lt_of_lt_of_le (Heap.lt_size e) (I.ok.cab x c hfn hc)))).trans e1⟩
    · by_cases hj : j = i
      · subst hj
        rw [hi] at e1; cases e1
        rw [List.getElem?_set_self hiσ] at e2
        cases e2
        exact ⟨u, r, .inr ⟨.inl hk, c, hc, hc'⟩⟩
      · rw [List.getElem?_set_ne (Ne.symm hj)] at e2
        obtain ⟨u', r', q⟩ := hl j y v' e1 e2 e3
        refine ⟨u', r', ?_⟩
        rcases q with q | ⟨k, c', e, z'⟩
        · exact .inl q
        · refine .inr ⟨k, c', e, z'.sameBut hs ?_⟩
          rintro rfl
          exact hj (nodup_ix hN e1 (I.ok.inj _ _ _ e hc ▸ hi))
    · by_cases hcc : c' = c
      · subst hcc; exact ⟨_, hc'⟩
      · obtain ⟨w2, z2⟩ := I.cell y c' e
        exact ⟨w2, z2.sameBut hs hcc⟩
    · obtain ⟨e, n, ne, nf, d⟩ := I.pin p hp
      refine ⟨(hs.2 p.1 ?_).trans e, n, ne, nf, d⟩
      intro q
      rw [q, hoc] at e
      have q' : oc = p.2 := Option.some.inj e
      exact d w' (by rw [<- q']; exact hocd)
theorem store_ok {M : Model} {A : Around} {E : Value -> Shared -> Prop} {i : Nat} {x : Str} {v : V} {u : Value} {Q : Unit -> Shared -> Prop} (I : Inv X pins σ H s) (hN : X.N.Nodup) (hi : X.N[i]? = some x) (hx : Loc X.env.scope x) (r : RelV v u)
    (h : ∀ s', Inv X pins (σ.set i (some v)) H s' -> Q () s') (hf : X.fn x = true ∨ X.env.scope.names.lookup x = some .local := by first | exact .inl rfl | exact .inr rfl | assumption) : wpAny M A (storeName X.env x u) Q E s :=
  store_ok2 I hN hi hx r (fun s' I' _ => h s' I') hf
theorem Inv.call' {s' : Shared} {ch : List Addr} (I : Inv X pins σ H s) (ho : s'.os = s.os) (u : Un (frs X.stack) ch H H' s.heap s'.heap) (hok : HOk X.prog X.w H' s'.heap) (hg : AllBare s'.gens)
    (hch : ∀ b ∈ ch, (b ∈ X.ex ∨ X.s₀.heap.objs.size <= b) /\ b ≠ X.env.locals /\ (∀ x c, X.env.cells.lookup x = some c -> c ≠ b) /\ ∀ p ∈ X.pn ++ pins, p.1 ≠ b) : Inv X pins σ H' s' := by
  obtain ⟨h', g', d', t', o'⟩ := s'
  have e : o' = s.os := ho
  subst e
  exact I.call (g' := g') (t' := t') (d' := d') u hok hg hch
end
abbrev XK := Value -> Option Addr -> Hp -> Prop
abbrev St := List (Option V)
abbrev VK := V -> Hp -> Prop
abbrev TE := St -> Hp -> VK -> Prop
abbrev TT := St -> Hp -> (Bool -> Hp -> Prop) -> Prop
abbrev TA := St -> Hp -> (List V -> Hp -> Prop) -> Prop
structure Ends where
  nx : St -> Hp -> Prop
  rt : VK
  bk : St -> Hp -> Prop := fun _ _ => False
  ct : St -> Hp -> Prop := fun _ _ => False
abbrev TS := Ends -> St -> Hp -> Prop
def EP (X : Cx) (pins : List (Addr × Obj)) (σ : St) (Q : VK) (u : Value) (s' : Shared) : Prop := ∃ v H', Inv X pins σ H' s' /\ RelV v u /\ Q v H'
def TP (X : Cx) (pins : List (Addr × Obj)) (σ : St) (Q : Bool -> Hp -> Prop) (b : Bool) (s' : Shared) : Prop := ∃ H', Inv X pins σ H' s' /\ Q b H'
def AP (X : Cx) (pins : List (Addr × Obj)) (σ : St) (Q : List V -> Hp -> Prop) (us : List Value) (s' : Shared) : Prop := ∃ vs H', Inv X pins σ H' s' /\ Vals vs us /\ Q vs H'
def SP (X : Cx) (pins : List (Addr × Obj)) (D : Ends) (f : Flow) (s' : Shared) : Prop :=
  match f with
  | .next => ∃ σ' H', Inv X pins σ' H' s' /\ D.nx σ' H'
  | .brk => ∃ σ' H', Inv X pins σ' H' s' /\ D.bk σ' H'
  | .cont => ∃ σ' H', Inv X pins σ' H' s' /\ D.ct σ' H'
  | .ret u => ∃ v σ' H', Inv X pins σ' H' s' /\ RelV v u /\ D.rt v H'
def PE (X : Cx) (e : Expr) (t : TE) : Prop :=
  ∀ (pins : List (Addr × Obj)) (s : Shared) (σ : St) (H : Hp) (Q : VK), Inv X pins σ H s -> t σ H Q -> wpAny (model X.prog X.w) X.A (eval e X.env) (EP X pins σ Q) X.xe s
def PT (X : Cx) (e : Expr) (t : TT) : Prop :=
  ∀ (pins : List (Addr × Obj)) (s : Shared) (σ : St) (H : Hp) (Q : Bool -> Hp -> Prop), Inv X pins σ H s -> t σ H Q -> wpAny (model X.prog X.w) X.A (isTrue e X.env (eval e X.env)) (TP X pins σ Q) X.xe s
def PW (X : Cx) (e : Expr) (t : TT) : Prop :=
  ∀ (whole : Sem Value) (pins : List (Addr × Obj)) (s : Shared) (σ : St) (H : Hp) (Q : Bool -> Hp -> Prop), Inv X pins σ H s -> t σ H Q -> wpAny (model X.prog X.w) X.A (isTrue e X.env whole) (TP X pins σ Q) X.xe s
theorem PW.pt {X : Cx} {e : Expr} {t : TT} (h : PW X e t) : PT X e t := h _
def PA (X : Cx) (es : List Expr) (t : TA) : Prop :=
  ∀ (pos : Pos) (pins : List (Addr × Obj)) (s : Shared) (σ : St) (H : Hp) (Q : List V -> Hp -> Prop), Inv X pins σ H s -> t σ H Q -> wpAny (model X.prog X.w) X.A (spliced (backTo pos (starEach es X.env))) (AP X pins σ Q) X.xe s
def PS (X : Cx) (st : Stmt) (t : TS) : Prop :=
  ∀ (pins : List (Addr × Obj)) (s : Shared) (σ : St) (H : Hp) (D : Ends), Inv X pins σ H s -> t D σ H -> wpAny (model X.prog X.w) X.A (exec st X.env) (SP X pins D) X.xe s
def PSs (X : Cx) (st : List Stmt) (t : TS) : Prop :=
  ∀ (pins : List (Addr × Obj)) (s : Shared) (σ : St) (H : Hp) (D : Ends), Inv X pins σ H s -> t D σ H -> wpAny (model X.prog X.w) X.A (execs st X.env) (SP X pins D) X.xe s
theorem thn {α : Type} {t : Sem α} {Q Q' : α -> Shared -> Prop} {M : Model} {A : Around} {E : Value -> Shared -> Prop} {s : Shared} (h : wpAny M A t Q E s) (hQ : ∀ a s, Q a s -> Q' a s) : wpAny M A t Q' E s := wpAny_mono h hQ fun _ _ x => x
section
variable {X : Cx}
def tVar (i : Nat) : TE := fun σ H Q => ∃ v, σ[i]? = some (some v) /\ Q v H
def tC (v : V) : TE := fun _ H Q => Q v H
theorem pe_var {i : Nat} {x : Str} {pos : Pos} (hN : X.N[i]? = some x) (hv : Vis X.env.scope x) (hd : (x == ("__debug__" : Str)) = false := by decide) (hcd : (x == ("__classdict__" : Str)) = false := by decide) : PE X (.Name x pos) (tVar i) := by
  intro pins s σ H Q I h
  obtain ⟨v, e, h⟩ := h
  obtain ⟨m, hn, hl⟩ := I.loc
  obtain ⟨u, r, l⟩ := hl i x v hN e hv
  have fin : EP X pins σ Q u s := ⟨v, H, I, r, h⟩
  rcases l with ⟨hk, hm⟩ | ⟨hk, c, hc, hcell⟩
  · exact wpAny_Name (wpAny_loadName_local I.ok.kind hk hn hm fin) hd
  · rcases hk with hk | hk
    · exact wpAny_Name (wpAny_loadName_cell I.ok.kind hk hc hcell fin) hd
    · exact wpAny_Name (wpAny_loadName_free I.ok.kind hk hc hcell fin hcd) hd
theorem pe_int {i j pos} : PE X (.Constant (.int i) j pos) (tC (.int i)) := fun _ _ _ H _ I h => wpAny_Constant_int ⟨.int i, H, I.tok _, ⟨_, rfl⟩, h⟩
theorem pe_bl {b j pos} : PE X (.Constant (.bool b) j pos) (tC (.bl b)) := fun _ _ _ H _ I h => Constant_bool ⟨.bl b, H, I, rfl, h⟩
theorem pe_str {x j pos} : PE X (.Constant (.str x) j pos) (tC (.str x)) := fun _ _ _ H _ I h => Calls.Constant_str ⟨.str x, H, I.tok _, ⟨_, rfl⟩, h⟩
def Gl (X : Cx) (x : Str) : Prop := X.env.kindOf x = some .globalImplicit
theorem ld_glob {E : Value -> Shared -> Prop} {pins : List (Addr × Obj)} {s : Shared} {σ : St} {H : Hp} {x : Str} {u : Value} {pos : Pos} {Q : Value -> Shared -> Prop} (I : Inv X pins σ H s) (hg : Gl X x) (hm : X.mg x = some u) (h : Q u s)
    (hd : (x == ("__debug__" : Str)) = false := by decide) : wpAny (model X.prog X.w) X.A (eval (.Name x pos) X.env) Q E s :=
  Calls.Name_function_global I.ok.kind hg (Calls.loadGlobal_global (by rw [I.ok.glob]; exact I.mod.glob.keeps I.bk) hm h) hd
theorem ld_blt {E : Value -> Shared -> Prop} {pins : List (Addr × Obj)} {s : Shared} {σ : St} {H : Hp} {x : Str} {u : Value} {pos : Pos} {Q : Value -> Shared -> Prop} (I : Inv X pins σ H s) (hg : Gl X x) (hm : X.mg x = none) (hv : bootBuiltins x = some u) (h : Q u s)
    (hn : x ≠ "__name__" := by decide) (hd : (x == ("__debug__" : Str)) = false := by decide) : wpAny (model X.prog X.w) X.A (eval (.Name x pos) X.env) Q E s := by
  obtain ⟨mb, h1, h2⟩ := I.mod.blt
  exact Calls.Name_function_global I.ok.kind hg (Calls.loadGlobal_builtin (by rw [I.ok.glob]; exact I.mod.glob.keeps I.bk) hm (by rw [I.ok.blt]; exact h1.keeps I.bk) ((h2 x hn).trans hv) h) hd
theorem pe_glob {x : Str} {v : V} {u : Value} {pos : Pos} (hg : Gl X x) (hm : X.mg x = some u) (r : RelV v u) (hd : (x == ("__debug__" : Str)) = false := by decide) : PE X (.Name x pos) (tC v) :=
  fun _ _ _ H _ I h => ld_glob I hg hm ⟨v, H, I, r, h⟩ hd
theorem pe_bltn {x : Str} {v : V} {u : Value} {pos : Pos} (hg : Gl X x) (hm : X.mg x = none) (hv : bootBuiltins x = some u) (r : RelV v u) (hn : x ≠ "__name__" := by decide) (hd : (x == ("__debug__" : Str)) = false := by decide) : PE X (.Name x pos) (tC v) :=
  fun _ _ _ H _ I h => ld_blt I hg hm hv ⟨v, H, I, r, h⟩ hn hd
variable {a b : Expr} {ta tb : TE} {pos : Pos}
variable {tA tB' : TT} {rest : List Expr}
def tAnd (t u : TT) : TT := fun σ H Q => t σ H fun c H1 => if c = true then u σ H1 Q else Q false H1
def tOr (t u : TT) : TT := fun σ H Q => t σ H fun c H1 => if c = true then Q true H1 else u σ H1 Q
def tNot (t : TT) : TT := fun σ H Q => t σ H fun c H1 => Q (!c) H1
theorem pw_and1 (ha : PT X a tA) : PW X (.BoolOp .And [a] pos) tA := by
  intro wh pins s σ H Q I h
  refine isTrue_and (thn (ha pins s σ H Q I h) fun c s1 e => ?_)
  cases c with
  | true => exact isTrue_and_nil e
  | false => exact e
theorem pw_or1 (ha : PT X a tA) : PW X (.BoolOp .Or [a] pos) tA := by
  intro wh pins s σ H Q I h
  refine isTrue_or (thn (ha pins s σ H Q I h) fun c s1 e => ?_)
  cases c with
  | false => exact isTrue_or_nil e
  | true => exact e
theorem pw_and (ha : PT X a tA) (hb : PW X (.BoolOp .And (b :: rest) pos) tB') : PW X (.BoolOp .And (a :: b :: rest) pos) (tAnd tA tB') := by
  intro wh pins s σ H Q I h
  refine isTrue_and (thn (ha pins s σ H _ I h) fun c s1 ⟨H1, I1, q1⟩ => ?_)
  cases c with
  | true => exact hb wh pins s1 σ H1 Q I1 q1
  | false => exact ⟨H1, I1, q1⟩
theorem pw_or (ha : PT X a tA) (hb : PW X (.BoolOp .Or (b :: rest) pos) tB') : PW X (.BoolOp .Or (a :: b :: rest) pos) (tOr tA tB') := by
  intro wh pins s σ H Q I h
  refine isTrue_or (thn (ha pins s σ H _ I h) fun c s1 ⟨H1, I1, q1⟩ => ?_)
  cases c with
  | true => exact ⟨H1, I1, q1⟩
  | false => exact hb wh pins s1 σ H1 Q I1 q1
theorem pt_not (ha : PT X a tA) : PT X (.UnaryOp .Not a pos) (tNot tA) := by
  intro pins s σ H Q I h
  exact isTrue_not (ha pins s σ H (fun c H1 => Q (!c) H1) I h)
def tAndV (ta tb : TE) : TE := fun σ H Q => ta σ H fun x H1 => ∃ c, x = .bl c /\ if c = true then tb σ H1 Q else Q (.bl false) H1
theorem pe_one {op} {t : TE} (h : PE X a t) : PE X (.BoolOp op [a] pos) t := fun pins s σ H Q I hw => BoolOp_one (h pins s σ H Q I hw)
theorem pe_and (ha : PE X a ta) (hb : PE X (.BoolOp .And (b :: rest) pos) tb) : PE X (.BoolOp .And (a :: b :: rest) pos) (tAndV ta tb) := by
  intro pins s σ H Q I h
  refine BoolOp_and (thn (ha pins s σ H _ I h) fun v s1 ⟨x, H1, I1, r1, q1⟩ => ?_)
  obtain ⟨c, rfl, q1⟩ := q1
  cases r1
  refine wpAny_truthy_bool ?_
  cases c with
  | true => exact hb pins s1 σ H1 Q I1 q1
  | false => exact ⟨.bl false, H1, I1, rfl, q1⟩
def tIf (t : TT) (ta tb : TE) : TE := fun σ H Q => t σ H fun c H1 => if c = true then ta σ H1 Q else tb σ H1 Q
theorem pe_ifExp {c : Expr} (hc : PT X c tA) (ha : PE X a ta) (hb : PE X b tb) : PE X (.IfExp c a b pos) (tIf tA ta tb) := by
  intro pins s σ H Q I h
  refine wpAny_IfExp (thn (hc pins s σ H _ I h) fun d s1 ⟨H1, I1, q1⟩ => ?_)
  cases d with
  | true => exact ha pins s1 σ H1 Q I1 q1
  | false => exact hb pins s1 σ H1 Q I1 q1
end
def SqL (K : PySem.W.Frag) (H : Hp) (a : Addr) (xs : List V) : Prop :=
  Rd H a (.lst xs) ∨
    ∃ (o : Obj) (its : Array Value) (n : Nat), K.lookup a = some o /\ o.cls = .type "list" /\ o.dict = none /\ o.data = .seq its n /\ its.size <= sizeLine /\ Vals xs its.toList
def SqT (K : PySem.W.Frag) (H : Hp) (a : Addr) (xs : List V) : Prop :=
  Rd H a (.tup xs) ∨
    ∃ (o : Obj) (its : Array Value) (n : Nat), K.lookup a = some o /\ o.cls = .type "tuple" /\ o.data = .seq its n /\ its.size <= sizeLine /\ Vals xs its.toList
def absV : Value -> Option V
  | .none => some .non
  | .bool b => some (.bl b)
  | .int i _ => some (.int i)
  | .str x _ => some (.str x)
  | .bytes b _ => some (.byt b)
  | .float b _ => some (.flt b)
  | .ref a => some (.ref a)
  | .type n => some (.ty n)
  | _ => none
theorem RelV.abs {x : V} {u : Value} (r : RelV x u) : absV u = some x := by
  cases x with
  | non => cases r; rfl
  | bl _ => cases r; rfl
  | int _ => obtain ⟨t, rfl⟩ := r; rfl
  | str _ => obtain ⟨t, rfl⟩ := r; rfl
  | byt _ => obtain ⟨t, rfl⟩ := r; rfl
  | flt _ => obtain ⟨t, rfl⟩ := r; rfl
  | ref _ => cases r; rfl
  | ty _ => cases r; rfl
theorem RelV.inj {x y : V} {u : Value} (r : RelV x u) (q : RelV y u) : x = y := Option.some.inj (r.abs.symm.trans q.abs)
theorem Vals.inj : ∀ {xs ys : List V} {us : List Value}, Vals xs us -> Vals ys us -> xs = ys
  | _, _, _, .nil, .nil => rfl
  | _, _, _, .cons r t, .cons r' t' => by rw [r.inj r', Vals.inj t t']
section
variable {X : Cx} {pins : List (Addr × Obj)} {σ : St} {H : Hp} {s : Shared} {a : Addr} {xs ys : List V}
theorem SqL.of {K : PySem.W.Frag} (h : H a = some (.lst xs)) : SqL K H a xs := .inl (.inl h)
theorem SqT.of {K : PySem.W.Frag} (h : H a = some (.tup xs)) : SqT K H a xs := .inl (.inl h)
theorem Inv.list (I : Inv X pins σ H s) (h : SqL X.K H a xs) : ∃ its : List Value, Vals xs its /\ PlainL s.heap a its.toArray /\ xs.length <= sizeLine := by
  rcases h with h | ⟨o, its, n, hk, hc, hd, hs, hz, r⟩
  · obtain ⟨z, its, n, r, e⟩ := h.ok I.hok
    exact ⟨its, r, ⟨_, n, e, rfl, rfl, rfl⟩, z⟩
  · refine ⟨its.toList, r, ⟨o, n, I.kIn a o hk, hc, hd, by simpa using hs⟩, ?_⟩
    have e := r.length
    simp only [Array.length_toList] at e
    omega
theorem Inv.tuple (I : Inv X pins σ H s) (h : SqT X.K H a xs) : ∃ its : List Value, Vals xs its /\ IsTup s.heap a its.toArray /\ xs.length <= sizeLine := by
  rcases h with h | ⟨o, its, n, hk, hc, hs, hz, r⟩
  · obtain ⟨z, its, r, p⟩ := h.ok I.hok
    exact ⟨its, r, p, z⟩
  · refine ⟨its.toList, r, ⟨o, I.kIn a o hk, hc, n, by simpa using hs⟩, ?_⟩
    have e := r.length
    simp only [Array.length_toList] at e
    omega
theorem Inv.list_inj (I : Inv X pins σ H s) (h : SqL X.K H a xs) (h' : SqL X.K H a ys) : xs = ys := by
  obtain ⟨its, r, ⟨o, n, e, _, _, d⟩, _⟩ := I.list h
  obtain ⟨its', r', ⟨o', n', e', _, _, d'⟩, _⟩ := I.list h'
  rw [e] at e'; cases e'
  rw [d] at d'
  injection d' with d1 _
  have : its = its' := by simpa using congrArg Array.toList d1
  subst this
  exact r.inj r'
end
abbrev Cx.wish (X : Cx) (E : Value -> Shared -> Prop) : Cx := { X with xe := E }
abbrev Cx.nox (X : Cx) : Cx := X.wish fun _ _ => False
theorem Cx.Ok.wish {X : Cx} (ok : X.Ok) (E : Value -> Shared -> Prop) : (X.wish E).Ok :=
  ⟨ok.mod, ok.kind, ok.glob, ok.blt, ok.above, ok.inj, ok.has, ok.cab, ok.hd, ok.frames, ok.stk, ok.exf, ok.bs, ok.bsz, ok.noex, ok.exfs, ok.funs, ok.frf⟩
theorem Cx.Ok.unwish {X : Cx} {E : Value -> Shared -> Prop} (ok : (X.wish E).Ok) : X.Ok :=
  ⟨ok.mod, ok.kind, ok.glob, ok.blt, ok.above, ok.inj, ok.has, ok.cab, ok.hd, ok.frames, ok.stk, ok.exf, ok.bs, ok.bsz, ok.noex, ok.exfs, ok.funs, ok.frf⟩
section
variable {X : Cx} {pins : List (Addr × Obj)} {σ : St} {H : Hp} {s : Shared} {E : Value -> Shared -> Prop}
theorem Inv.wish (I : Inv X pins σ H s) (E : Value -> Shared -> Prop) : Inv (X.wish E) pins σ H s := ⟨I.ok.wish E, I.os, I.bare, I.base, I.loc, I.cell, I.free, I.freeC, I.pin, I.hok, I.len⟩
theorem Inv.unwish (I : Inv (X.wish E) pins σ H s) : Inv X pins σ H s := ⟨I.ok.unwish, I.os, I.bare, I.base, I.loc, I.cell, I.free, I.freeC, I.pin, I.hok, I.len⟩
theorem SP.unwish {D : Ends} {f : Flow} {s' : Shared} (h : SP (X.wish E) pins D f s') : SP X pins D f s' := by
  cases f with
  | next => obtain ⟨σ', H', I, q⟩ := h; exact ⟨σ', H', I.unwish, q⟩
  | brk => obtain ⟨σ', H', I, q⟩ := h; exact ⟨σ', H', I.unwish, q⟩
  | cont => obtain ⟨σ', H', I, q⟩ := h; exact ⟨σ', H', I.unwish, q⟩
  | ret u => obtain ⟨v, σ', H', I, r, q⟩ := h; exact ⟨v, σ', H', I.unwish, r, q⟩
theorem PSs.nox {st : List Stmt} {t : TS} (h : PSs X.nox st t) : PSs X st t := fun pins s σ H D I hw =>
  wpAny_mono (h pins s σ H D (I.wish _) hw) (fun _ _ q => q.unwish) fun _ _ z => False.elim z
end
section
variable {X : Cx} {st : Stmt} {rest : List Stmt} {t u : TS} {e : Expr} {te : TE} {pos : Pos}
def tNext : TS := fun D σ H => D.nx σ H
def tSeq (t u : TS) : TS := fun D σ H => t { D with nx := u D } σ H
theorem pss_nil : PSs X [] tNext := fun _ _ σ H _ I h => wpAny_execs_nil ⟨σ, H, I, h⟩
theorem pss_cons (h1 : PS X st t) (h2 : PSs X rest u) : PSs X (st :: rest) (tSeq t u) := by
  intro pins s σ H D I h
  refine wpAny_execs_cons (thn (h1 pins s σ H { D with nx := u D } I h) fun f s1 q => ?_)
  cases f with
  | next =>
    obtain ⟨σ', H', I', q⟩ := q
    exact h2 pins s1 σ' H' D I' q
  | ret v => exact q
  | brk => exact q
  | cont => exact q
theorem pss_one (h1 : PS X st t) : PSs X [st] t := by
  intro pins s σ H D I h
  refine wpAny_execs_cons (thn (h1 pins s σ H D I h) fun f s1 q => ?_)
  cases f with
  | next => exact wpAny_execs_nil q
  | ret v => exact q
  | brk => exact q
  | cont => exact q
theorem Inv.quiet {pins : List (Addr × Obj)} {σ : St} {H : Hp} {s : Shared} (I : Inv X pins σ H s) : interactive X.env = false := by simp [interactive, I.ok.kind]
def tDrop (te : TE) : TS := fun D σ H => te σ H fun _ H1 => D.nx σ H1
theorem ps_expr (he : PE X e te) (hs : swapsWith e none pos.line X.env = pure false := by rfl) : PS X (.Expr e pos) (tDrop te) := by
  intro pins s σ H D I h
  exact wpAny_Expr_any (thn (he pins s σ H _ I h) fun v s1 ⟨x, H1, I1, r1, q1⟩ => ⟨σ, H1, I1, q1⟩) I.quiet hs
def tRet (te : TE) : TS := fun D σ H => te σ H D.rt
theorem ps_ret (he : PE X e te) : PS X (.Return (some e) pos) (tRet te) := by
  intro pins s σ H D I h
  exact wpAny_Return_some (thn (he pins s σ H _ I h) fun v s1 ⟨x, H1, I1, r1, q1⟩ => ⟨x, σ, H1, I1, r1, q1⟩)
def tIfS (c : TT) (t u : TS) : TS := fun D σ H => c σ H fun b H1 => if b = true then t D σ H1 else u D σ H1
theorem ps_if {c : Expr} {a b : List Stmt} {tc : TT} (hc : PT X c tc) (ha : PSs X a t) (hb : PSs X b u) : PS X (.If c a b pos) (tIfS tc t u) := by
  intro pins s σ H D I h
  refine wpAny_If (thn (hc pins s σ H _ I h) fun d s1 ⟨H1, I1, q1⟩ => ?_)
  cases d with
  | true => exact ha pins s1 σ H1 D I1 q1
  | false => exact hb pins s1 σ H1 D I1 q1
def tNever : TS := fun _ _ _ => False
theorem ps_never : PS X st tNever := fun _ _ _ _ _ _ h => h.elim
end
abbrev TG := V -> St -> Hp -> (St -> Hp -> Prop) -> Prop
abbrev TGs := List V -> St -> Hp -> (St -> Hp -> Prop) -> Prop
def PG (X : Cx) (target : Expr) (t : TG) : Prop :=
  ∀ (pins : List (Addr × Obj)) (s : Shared) (σ : St) (H : Hp) (v : V) (u : Value) (Q : St -> Hp -> Prop), Inv X pins σ H s -> RelV v u -> t v σ H Q ->
    wpAny (model X.prog X.w) X.A (assign target X.env u) (fun _ s' => ∃ σ' H', Inv X pins σ' H' s' /\ Q σ' H') X.xe s
def PGs (X : Cx) (ts : List Expr) (t : TGs) : Prop :=
  ∀ (pins : List (Addr × Obj)) (s : Shared) (σ : St) (H : Hp) (vs : List V) (us : List Value) (Q : St -> Hp -> Prop), Inv X pins σ H s -> Vals vs us -> t vs σ H Q ->
    wpAny (model X.prog X.w) X.A (assignInOrder ((assignEach ts X.env).map (·.2)) us) (fun _ s' => ∃ σ' H', Inv X pins σ' H' s' /\ Q σ' H') X.xe s
section
variable {X : Cx} {pos : Pos}
def gName (i : Nat) : TG := fun v σ H Q => Q (σ.set i (some v)) H
theorem pg_name {i : Nat} {x : Str} (hN : X.N.Nodup) (hi : X.N[i]? = some x) (hx : Loc X.env.scope x) (hf : X.fn x = true ∨ X.env.scope.names.lookup x = some .local := by first | exact .inl rfl | exact .inr rfl | assumption) : PG X (.Name x pos) (gName i) := by
  intro pins s σ H v u Q I r h
  exact wpAny_assign_Name (store_ok I hN hi hx r (fun s' I' => ⟨_, H, I', h⟩) hf)
def gNil : TGs := fun vs σ H Q => vs = [] /\ Q σ H
def gCons (t : TG) (u : TGs) : TGs := fun vs σ H Q => ∃ v r, vs = v :: r /\ t v σ H fun σ' H' => u r σ' H' Q
theorem pgs_nil : PGs X [] gNil := by
  intro pins s σ H vs us Q I r h
  obtain ⟨e, h⟩ := h
  subst e
  cases r
  exact assignInOrder_nil ⟨σ, H, I, h⟩
theorem pgs_cons {e : Expr} {es : List Expr} {t : TG} {u : TGs} (h1 : PG X e t) (h2 : PGs X es u)
    (hs : (assignEach (e :: es) X.env).map (·.2) = assign e X.env :: (assignEach es X.env).map (·.2) := by rfl) : PGs X (e :: es) (gCons t u) := by
  intro pins s σ H vs us Q I r h
  obtain ⟨v, vr, e1, h⟩ := h
  subst e1
  cases r with
  | cons r rr =>
    rw [hs]
    refine assignInOrder_cons (thn (h1 pins s σ H _ _ _ I r h) fun _ s1 ⟨σ1, H1, I1, q1⟩ => ?_)
    exact h2 pins s1 σ1 H1 _ _ Q I1 rr q1
def gTup (K : PySem.W.Frag) (n : Nat) (t : TGs) : TG := fun v σ H Q => ∃ a xs, v = .ref a /\ SqT K H a xs /\ xs.length = n /\ t xs σ H Q
theorem pg_tup {es : List Expr} {k : Nat} {t : TGs} {n : Nat} (hc : X.calm = true) (h : PGs X es t)
    (hn : (assignEach es X.env).length = n := by rfl) (hst : (assignEach es X.env).findIdx? (·.1) = none := by rfl) : PG X (.Tuple es k pos) (gTup X.K n t) := by
  intro pins s σ H v u Q I r hw
  obtain ⟨a, xs, e1, hq, hl, hw⟩ := hw
  subst e1
  cases r
  obtain ⟨its, rv, ht, hz⟩ := I.tuple hq
  refine assign_Tuple_tuple (I.ok.hd hc) ht (by simp [hn, <- hl, rv.length]) hst fun h' hx => ?_
  have I1 : Inv X pins σ H { s with heap := h' } := I.kept (t' := s.toks) fun b o e => hx b o (Nat.ne_of_lt (Heap.lt_size e)) e
  exact h pins _ σ H xs _ Q I1 (by simpa using rv) hw
def tAsg (te : TE) (g : TG) : TS := fun D σ H => te σ H fun x H1 => g x σ H1 D.nx
theorem ps_set {i : Nat} {x : Str} {e : Expr} {te : TE} {pos' : Pos} (hN : X.N.Nodup) (hi : X.N[i]? = some x) (hx : Loc X.env.scope x) (he : PE X e te) (hs : swapsWith e (some (.Name x pos')) pos.line X.env = pure false := by rfl) (hf : X.fn x = true ∨ X.env.scope.names.lookup x = some .local := by first | exact .inl rfl | exact .inr rfl | assumption) :
    PS X (.Assign [.Name x pos'] e pos) (tAsg te (gName i)) := by
  intro pins s σ H D I h
  refine wpAny_Assign_Name (thn (he pins s σ H _ I h) fun v s1 ⟨y, H1, I1, r1, q1⟩ => ?_) hs
  exact store_ok I1 hN hi hx r1 (fun s2 I2 => ⟨_, H1, I2, q1⟩) hf
end
section
variable {X : Cx} {pos : Pos}
end
structure It where
  go : Nat -> Hp -> Prop
  yld : Nat -> Hp -> V -> Hp -> Prop
  stop : Nat -> Hp -> Prop
def FpOk (X : Cx) (pins : List (Addr × Obj)) (H : Hp) (b : Addr) : Prop :=
  H b = none /\ b ≠ X.env.locals /\ b ∉ X.fs /\ (b ∈ X.ex ∨ X.s₀.heap.objs.size <= b) /\ (∀ x c, X.env.cells.lookup x = some c -> c ≠ b) /\ ∀ p ∈ X.pn ++ pins, p.1 ≠ b
theorem Inv.fpOk {X : Cx} {pins : List (Addr × Obj)} {σ : St} {H H' : Hp} {s : Shared} {b : Addr} (I : Inv X pins σ H s) (hb : s.heap.objs.size <= b) (hn : H' b = none) : FpOk X pins H' b := by
  refine ⟨hn, Nat.ne_of_gt (Nat.lt_of_lt_of_le I.lt hb), I.nofs hb, .inr (Nat.le_trans I.sz hb), fun x c e z => ?_, fun p hp z => ?_⟩
  · obtain ⟨v, q⟩ := I.cell x c e
    exact absurd (Nat.lt_of_lt_of_le q.lt (by rw [z]; exact hb)) (Nat.lt_irrefl _)
  · exact absurd (Nat.lt_of_lt_of_le (Heap.lt_size (I.pin p hp).1) (by rw [z]; exact hb)) (Nat.lt_irrefl _)
structure Turn (P : Program) (w : World) (K : PySem.W.Frag) (tg : Expr) (J : It) (fp : List Addr) (it : Addr) (tn : Nat -> Heap -> Prop) : Prop where
  mem : it ∈ fp
  obj : ∀ i h, tn i h -> ∀ b ∈ fp, ∃ o, h.get? b = some o /\ ∀ v, o.data ≠ .cell v
  keep : ∀ i h h', tn i h -> (∀ b ∈ fp, ∀ o, h.get? b = some o -> h'.get? b = some o) -> tn i h'
  item : ∀ (X : Cx), X.prog = P -> X.w = w -> X.K = K -> X.calm = true -> ∀ (i : Nat) (pins : List (Addr × Obj)) (s : Shared) (σ : St) (H : Hp) (E : Value -> Shared -> Prop), Inv X pins σ H s -> (∀ b ∈ fp, FpOk X pins H b) -> tn i s.heap -> J.go i H ->
    wpAny (model P w) X.A (pyNext (.ref it)) (fun r s1 => ∃ u, r = some u /\
      wpAny (model P w) X.A (letOwnedTupleGo tg (.ref it) u) (fun _ s2 => ∃ x H', Inv X pins σ H' s2 /\ RelV x u /\ J.yld i H x H' /\ tn (i + 1) s2.heap /\ ∀ b ∈ fp, H' b = none) E s1) E s
  done : ∀ (X : Cx), X.prog = P -> X.w = w -> X.K = K -> X.calm = true -> ∀ (i : Nat) (pins : List (Addr × Obj)) (s : Shared) (σ : St) (H : Hp) (E : Value -> Shared -> Prop), Inv X pins σ H s -> (∀ b ∈ fp, FpOk X pins H b) -> tn i s.heap -> J.stop i H ->
    wpAny (model P w) X.A (pyNext (.ref it)) (fun r s1 => r = none /\ Inv X pins σ H s1) E s
  self : ∀ (A : Around) (i : Nat) (s : Shared) (Q : Value -> Shared -> Prop) (E : Value -> Shared -> Prop), tn i s.heap -> Q (.ref it) s -> wpAny (model P w) A (pyIter (.ref it)) Q E s
abbrev TI := St -> Hp -> (It -> Hp -> Prop) -> Prop
def PIE (X : Cx) (pins : List (Addr × Obj)) (σ : St) (tg : Expr) (R : It -> Hp -> Prop) (itv : Value) (s2 : Shared) : Prop :=
  ∃ (it : Addr) (fp : List Addr) (tn : Nat -> Heap -> Prop) (J : It) (H' : Hp), itv = .ref it /\ Inv X pins σ H' s2 /\ Turn X.prog X.w X.K tg J fp it tn /\ tn 0 s2.heap /\ (∀ b ∈ fp, FpOk X pins H' b) /\ R J H'
def PI (X : Cx) (tg iter : Expr) (wi : TI) : Prop :=
  ∀ (pins : List (Addr × Obj)) (s : Shared) (σ : St) (H : Hp) (R : It -> Hp -> Prop), Inv X pins σ H s -> wi σ H R ->
    wpAny (model X.prog X.w) X.A (eval iter X.env) (fun v s1 => wpAny (model X.prog X.w) X.A (pyIter v) (PIE X pins σ tg R) X.xe s1) X.xe s
theorem go_of {M : Model} {A : Around} {E : Value -> Shared -> Prop} {s : Shared} {tg : Expr} {it : Addr} {u : Value} {o : Obj} {n : String} {vs : Array Value} {Q : Unit -> Shared -> Prop} (ho : s.heap.get? it = some o) (hc : o.cls = .type n) (hd : o.data = .fields vs)
    (hn : ["enumerate", "zip", "dict_itemiterator", "dict_reverseitemiterator", "odict_iterator", "itertools.zip_longest", "itertools.pairwise"].contains n = false) (hQ : Q () s) : wpAny M A (letOwnedTupleGo tg (.ref it) u) Q E s := by
  unfold letOwnedTupleGo
  cases tg <;> first
    | exact wpAny_pure hQ
    | (cases u <;> first
        | exact wpAny_pure hQ
        | (refine wpAny_bind (wpAny_load ho ?_)
           rw [hc, hd]
           show wpAny M A (if (["enumerate", "zip", "dict_itemiterator", "dict_reverseitemiterator", "odict_iterator", "itertools.zip_longest", "itertools.pairwise"].contains n && vs[0]? == some (rawInt _)) = true then _ else _) Q E s
           rw [if_neg (by intro h; rw [hn, Bool.false_and] at h; cases h)]
           exact wpAny_pure hQ))
def Itl (K : PySem.W.Frag) (a : Addr) : It :=
  ⟨fun i H => ∃ xs x, SqL K H a xs /\ xs[i]? = some x, fun i H x H' => H' = H /\ ∀ xs, SqL K H a xs -> xs[i]? = some x, fun i H => ∃ xs, SqL K H a xs /\ xs.length <= i⟩
def Itr (lo : Int) (n : Nat) : It := ⟨fun i _ => i < n, fun i H x H' => H' = H /\ x = .int (lo + i), fun i _ => n <= i⟩
theorem turn_list {P : Program} {w : World} {K : PySem.W.Frag} {tg : Expr} (a it : Addr) : Turn P w K tg (Itl K a) [it] it (fun i h => h.IsListIter it a i) where
  mem := by simp
  obj := fun i h st b hb => by
    have e : b = it := by simpa using hb
    subst e
    obtain ⟨o, e, c, d⟩ := st
    exact ⟨o, e, fun v z => by rw [d] at z; cases z⟩
  keep := fun i h h' st k => st.at fun o e => k it (by simp) o e
  item := by
    intro X hP hw hK hc i pins s σ H E I hf st hg
    subst hP hw hK
    obtain ⟨xs, x, hq, hx⟩ := hg
    obtain ⟨its, rv, p, hz⟩ := I.list hq
    obtain ⟨u, hu, ru⟩ := rv.get hx
    obtain ⟨f0, f1, f2, f3, f4, f5⟩ := hf it (by simp)
    refine wpAny_pyNext_list_item st p.isList (x := u) (by simpa using hu) fun h' st' sb => ?_
    have I1 : Inv X pins σ H { s with heap := h' } := I.turned (t' := s.toks) (fun b o hb e => (sb.2 b hb).trans e) f0 f1 f3 f4 f5
    obtain ⟨o, e, c, d⟩ := id st'
    exact ⟨u, rfl, go_of (s := { s with heap := h' }) e c d (by decide) ⟨x, H, I1, ru, ⟨rfl, fun ys hy => by rw [I.list_inj hy hq]; exact hx⟩, st', fun b hb => (hf b hb).1⟩⟩
  done := by
    intro X hP hw hK hc i pins s σ H E I hf st hg
    subst hP hw hK
    obtain ⟨xs, hq, hx⟩ := hg
    obtain ⟨its, rv, p, hz⟩ := I.list hq
    obtain ⟨f0, f1, f2, f3, f4, f5⟩ := hf it (by simp)
    have hl := rv.length
    exact wpAny_pyNext_list_end (I.ok.hd hc) st p.isList (by simp; omega) fun h' eb => ⟨rfl, I.turned (t' := s.toks) (fun b o hb e => eb b o hb e) f0 f1 f3 f4 f5⟩
  self := fun _ _ _ _ _ st h => wpAny_pyIter_listiter st h
theorem turn_range {P : Program} {w : World} {K : PySem.W.Frag} {tg : Expr} (it : Addr) (lo : Int) (n : Nat) : Turn P w K tg (Itr lo n) [it] it (fun i h => IsRangeIter h it (lo + (i : Nat) * 1) ((n : Int) - (i : Nat)) 1) where
  mem := by simp
  obj := fun i h st b hb => by
    have e : b = it := by simpa using hb
    subst e
    exact ⟨_, st, fun v z => by
      have z' : Data.fields _ = Data.cell v := z
      cases z'⟩
  keep := fun i h h' st k => k it (by simp) _ st
  item := by
    intro X hP hw hK hc i pins s σ H E I hf st hg
    subst hP hw hK
    obtain ⟨f0, f1, f2, f3, f4, f5⟩ := hf it (by simp)
    have W := Walks.range (prog := X.prog) (w := X.w) (I.ok.hd hc) it lo 1 n
    refine W.item i s _ _ hg st fun v h' tk hv st' kk => ?_
    obtain ⟨t, rfl⟩ := hv
    have I1 : Inv X pins σ H { s with heap := h', toks := tk } := I.turned (fun b o hb e => kk b o (by simpa using hb) e) f0 f1 f3 f4 f5
    refine ⟨_, rfl, go_of (s := { s with heap := h', toks := tk }) (n := "range_iterator") st' rfl rfl (by decide) ⟨.int (lo + i), H, I1, ⟨t, ?_⟩, ⟨rfl, rfl⟩, st', fun b hb => (hf b hb).1⟩⟩
    rw [Int.mul_one]
  done := by
    intro X hP hw hK hc i pins s σ H E I hf st hg
    subst hP hw hK
    obtain ⟨f0, f1, f2, f3, f4, f5⟩ := hf it (by simp)
    exact wpAny_pyNext_range_end (I.ok.hd hc) st (by have : n <= i := hg; omega) fun h' eb => ⟨rfl, I.turned (t' := s.toks) (fun b o hb e => eb b o hb e) f0 f1 f3 f4 f5⟩
  self := fun _ _ _ _ _ st h => wpAny_pyIter_rangeiter st h
section
variable {X : Cx} {tg : Expr}
def iList (K : PySem.W.Frag) (tl : TE) : TI := fun σ H R => tl σ H fun x H1 => ∃ a, x = .ref a /\ (∃ xs, SqL K H1 a xs) /\ R (Itl K a) H1
theorem pi_list {l : Expr} {tl : TE} (hl : PE X l tl) : PI X tg l (iList X.K tl) := by
  intro pins s σ H R I h
  refine thn (hl pins s σ H _ I h) fun v s1 ⟨x, H1, I1, r1, q1⟩ => ?_
  obtain ⟨a, e, ⟨xs, hq⟩, q⟩ := q1
  subst e
  cases r1
  obtain ⟨its, rv, p, hz⟩ := I1.list hq
  refine wpAny_pyIter_list p.isList ?_
  refine ⟨s1.heap.objs.size, [s1.heap.objs.size], _, _, H1, rfl, I1.kept (t' := s1.toks) fun b o e => Heap.get?_push_of_some _ e, turn_list a _, ⟨_, Heap.get?_push_size _ rfl, rfl, rfl⟩, fun b hb => ?_, q⟩
  have e : b = s1.heap.objs.size := by simpa using hb
  subst e
  exact I1.fpOk (Nat.le_refl _) (I1.hok.fresh (Nat.le_refl _))
theorem range_it {pins : List (Addr × Obj)} {σ : St} {H : Hp} {s : Shared} {R : It -> Hp -> Prop} {E : Value -> Shared -> Prop} {lo hi : Int} {t u v : Tok} {tk : Nat} (I : Inv X pins σ H s) (h1 : -(2 ^ 62) <= lo) (h2 : lo < 2 ^ 62) (h3 : -(2 ^ 62) <= hi) (h4 : hi < 2 ^ 62)
    (q : R (Itr lo (hi - lo).toNat) H) : wpAny (model X.prog X.w) X.A (pyIter (.ref s.heap.objs.size)) (PIE X pins σ tg R) E { s with heap := s.heap.push { cls := .type "range", data := .fields #[.int lo t, .int hi u, .int 1 v] }, toks := tk } := by
  refine wpAny_pyIter_range (IsRange.new ..) (small_one h1 h2 h3 h4) ?_
  have I1 : Inv X pins σ H { s with heap := s.heap.push { cls := .type "range", data := .fields #[.int lo t, .int hi u, .int 1 v] }, toks := tk } := I.kept fun b o e => Heap.get?_push_of_some _ e
  refine ⟨(s.heap.push { cls := .type "range", data := .fields #[.int lo t, .int hi u, .int 1 v] }).objs.size, [(s.heap.push { cls := .type "range", data := .fields #[.int lo t, .int hi u, .int 1 v] }).objs.size], _, _, H, rfl,
    I1.kept (t' := tk) fun b o e => Heap.get?_push_of_some _ e, turn_range _ lo (hi - lo).toNat, ?_, fun b hb => ?_, q⟩
  · have e1 : lo + ((0 : Nat) : Int) * 1 = lo := by simp
    have e2 : (((hi - lo).toNat : Nat) : Int) - ((0 : Nat) : Int) = Builtin.Range.rangeSize lo hi 1 := by rw [rangeSize_one]; split <;> omega
    show IsRangeIter _ _ (lo + ((0 : Nat) : Int) * 1) ((((hi - lo).toNat : Nat) : Int) - ((0 : Nat) : Int)) 1
    rw [e1, e2]
    exact Heap.get?_push_size _ rfl
  · have e : b = (s.heap.push { cls := .type "range", data := .fields #[.int lo t, .int hi u, .int 1 v] }).objs.size := by simpa using hb
    subst e
    exact I1.fpOk (Nat.le_refl _) (I1.hok.fresh (Nat.le_refl _))
def iRng1 (ta : TA) : TI := fun σ H R => ta σ H fun vs H1 => ∃ j : Int, vs = [.int j] /\ -(2 ^ 62) <= j /\ j < 2 ^ 62 /\ R (Itr 0 j.toNat) H1
theorem pi_range1 {a : Expr} {ta : TA} {p pos : Pos} (hg : Gl X "range") (hm : X.mg "range" = none) (ha : PA X [a] ta) (hs : starEach [a] X.env = [(false, eval a X.env)] := by rfl) : PI X tg (.Call (.Name "range" p) [a] [] pos) (iRng1 ta) := by
  intro pins s σ H R I h
  refine Call_ (ld_blt I hg hm boot_range (PyProof.Rows.callWith_type1 (thn (ha pos pins s σ H _ I h) fun us s1 ⟨vs, H1, I1, r1, q1⟩ => ?_) hs rfl))
  obtain ⟨j, e, q1, q2, q⟩ := q1
  subst e
  cases r1 with
  | cons r rr =>
    cases rr
    obtain ⟨t, rfl⟩ := r
    exact call_range_1 (range_it I1 (by omega) (by omega) q1 q2 (by simpa using q))
def tFor (wi : TI) (g : TG) (tb : TS) : TS := fun D σ H => wi σ H fun J H1 => ∃ W : Nat -> Nat -> St -> Hp -> Prop, (∃ m, W 0 m σ H1) /\ ∀ i m σ H, W i m σ H ->
  (J.stop i H /\ D.nx σ H) ∨ (J.go i H /\ ∃ N : St -> Hp -> Prop, (∀ σ' H', N σ' H' -> ∃ m', m' < m /\ W (i + 1) m' σ' H') /\ ∀ x H', J.yld i H x H' -> g x σ H' fun σ2 H2 => tb { D with nx := N, ct := N, bk := D.nx } σ2 H2)
def pinsAt (fp : List Addr) (h : Heap) : List (Addr × Obj) := fp.filterMap fun b => (h.get? b).map fun o => (b, o)
theorem mem_pinsAt {fp : List Addr} {h : Heap} {b : Addr} {o : Obj} (hb : b ∈ fp) (e : h.get? b = some o) : (b, o) ∈ pinsAt fp h := List.mem_filterMap.mpr ⟨b, hb, by rw [e]; rfl⟩
theorem of_pinsAt {fp : List Addr} {h : Heap} {p : Addr × Obj} (hp : p ∈ pinsAt fp h) : p.1 ∈ fp /\ h.get? p.1 = some p.2 := by
  obtain ⟨b, hb, e⟩ := List.mem_filterMap.mp hp
  cases q : h.get? b with
  | none => rw [q] at e; cases e
  | some o =>
    rw [q] at e
    have e' : (b, o) = p := Option.some.inj e
    subst e'
    exact ⟨hb, q⟩
theorem Inv.pinned {pins : List (Addr × Obj)} {σ : St} {H : Hp} {s : Shared} {fp : List Addr} (I : Inv X pins σ H s) (hf : ∀ b ∈ fp, FpOk X pins H b) (ho : ∀ b ∈ fp, ∃ o, s.heap.get? b = some o /\ ∀ v, o.data ≠ .cell v) : Inv X (pins ++ pinsAt fp s.heap) σ H s :=
  I.pins_of fun p hp => (List.mem_append.mp hp).elim (fun z => I.pin p (List.mem_append_right _ z)) fun z => by
    obtain ⟨hb, e⟩ := of_pinsAt z
    obtain ⟨f0, f1, f2, _⟩ := hf p.1 hb
    obtain ⟨o, e', d⟩ := ho p.1 hb
    rw [e] at e'; cases e'
    exact ⟨e, f0, f1, f2, d⟩
theorem Inv.unpinned {pins pl : List (Addr × Obj)} {σ : St} {H : Hp} {s : Shared} (I : Inv X (pins ++ pl) σ H s) : Inv X pins σ H s := I.pins_of fun p hp => I.pin p (List.mem_append_right _ (List.mem_append_left _ hp))
theorem ps_for {iter : Expr} {body : List Stmt} {wi : TI} {g : TG} {tb : TS} {pos : Pos} (hp : PassesOwn (model X.prog X.w) X.A X.env X.xe) (hc : X.calm = true) (hi : PI X tg iter wi) (hg : PG X tg g) (hb : PSs X body tb)
    (hs : ∀ x, foldedSetIterable iter X.env x = pure x := by intro _; rfl) : PS X (.For tg iter body [] pos) (tFor wi g tb) := by
  intro pins s σ H D I h
  refine wpAny_For (thn (hi pins s σ H _ I h) fun v s1 h1 => thn h1 fun itv s2 h2 => ?_) hs
  obtain ⟨it, fp, tn, J, H2, e, I2, T, st2, f2, W, ⟨m0, w0⟩, turn⟩ := h2
  subst e
  have stat : ∀ {H' : Hp}, (∀ b ∈ fp, H' b = none) -> ∀ b ∈ fp, FpOk X pins H' b := fun hn b hb => ⟨hn b hb, (f2 b hb).2⟩
  refine codeAny_forLoop_any (fun n s' => ∃ i σ' H', Inv X pins σ' H' s' /\ tn i s'.heap /\ (∀ b ∈ fp, H' b = none) /\ W i n σ' H') ?_ m0 ⟨0, σ, H2, I2, st2, fun b hb => (f2 b hb).1, w0⟩
  rintro n s3 ⟨i, σ3, H3, I3, st3, fr3, w3⟩
  rcases turn i n σ3 H3 w3 with ⟨stop, qn⟩ | ⟨go, N, hN, step⟩
  · refine wpAny_passesOwn hp (thn (T.done X rfl rfl rfl hc i pins s3 σ3 H3 X.xe I3 (stat fr3) st3 stop) fun r s4 ⟨hr, I4⟩ => ?_)
    subst hr
    exact wpAny_execs_nil ⟨σ3, H3, I4, qn⟩
  · refine wpAny_passesOwn hp (thn (T.item X rfl rfl rfl hc i pins s3 σ3 H3 X.xe I3 (stat fr3) st3 go) fun r s4 ⟨u, hr, h4⟩ => ?_)
    subst hr
    refine wpAny_passesOwn hp (thn h4 fun _ s5 ⟨x, H5, I5, r5, y5, st5, fr5⟩ => ?_)
    have I5' := I5.pinned (stat fr5) (T.obj _ _ st5)
    refine wpAny_passesOwn hp (thn (hg _ s5 σ3 H5 x u _ I5' r5 (step x H5 y5)) fun _ s6 ⟨σ6, H6, I6, q6⟩ => ?_)
    refine wpAny_passesOwn hp (thn (hb _ s6 σ6 H6 _ I6 q6) fun f s7 q7 => ?_)
    have again : ∀ {σ7 : St} {H7 : Hp}, Inv X (pins ++ pinsAt fp s5.heap) σ7 H7 s7 -> N σ7 H7 -> ∃ m, m < n /\ ∃ i σ' H', Inv X pins σ' H' s7 /\ tn i s7.heap /\ (∀ b ∈ fp, H' b = none) /\ W i m σ' H' := fun {σ7 H7} I7 n7 => by
      obtain ⟨m', hm, w7⟩ := hN σ7 H7 n7
      refine ⟨m', hm, i + 1, σ7, H7, I7.unpinned, T.keep _ _ _ st5 fun b hb o e => (I7.pin (b, o) (List.mem_append_right _ (List.mem_append_right _ (mem_pinsAt hb e)))).1, fun b hb => ?_, w7⟩
      obtain ⟨o, e, d⟩ := T.obj _ _ st5 b hb
      exact (I7.pin (b, o) (List.mem_append_right _ (List.mem_append_right _ (mem_pinsAt hb e)))).2.1
    cases f with
    | next => obtain ⟨σ7, H7, I7, n7⟩ := q7; exact again I7 n7
    | cont => obtain ⟨σ7, H7, I7, n7⟩ := q7; exact again I7 n7
    | brk => obtain ⟨σ7, H7, I7, q7⟩ := q7; exact ⟨σ7, H7, I7.unpinned, q7⟩
    | ret v => obtain ⟨x7, σ7, H7, I7, r7, q7⟩ := q7; exact ⟨x7, σ7, H7, I7.unpinned, r7, q7⟩
end
theorem for_list {K : PySem.W.Frag} {a : Addr} {xs : List V} {g : TG} {tb : TS} {D : Ends} {σ : St} {H : Hp} (Pv : Nat -> St -> Hp -> Prop) (h0 : Pv 0 σ H) (hl : ∀ i σ H, i <= xs.length -> Pv i σ H -> SqL K H a xs)
    (hs : ∀ i x σ H, xs[i]? = some x -> Pv i σ H -> g x σ H fun σ2 H2 => tb { D with nx := Pv (i + 1), ct := Pv (i + 1), bk := D.nx } σ2 H2) (hd : ∀ σ H, Pv xs.length σ H -> D.nx σ H) :
    ∃ W : Nat -> Nat -> St -> Hp -> Prop, (∃ m, W 0 m σ H) /\ ∀ i m σ H, W i m σ H ->
      ((Itl K a).stop i H /\ D.nx σ H) ∨ ((Itl K a).go i H /\ ∃ N : St -> Hp -> Prop, (∀ σ' H', N σ' H' -> ∃ m', m' < m /\ W (i + 1) m' σ' H') /\ ∀ x H', (Itl K a).yld i H x H' -> g x σ H' fun σ2 H2 => tb { D with nx := N, ct := N, bk := D.nx } σ2 H2) := by
  refine ⟨fun i m σ H => m = xs.length - i /\ i <= xs.length /\ Pv i σ H, ⟨xs.length, by simp, Nat.zero_le _, h0⟩, ?_⟩
  rintro i m σ H ⟨rfl, hi, p⟩
  have q := hl i σ H hi p
  by_cases hlt : i < xs.length
  · refine .inr ⟨⟨xs, xs[i], q, by simp [hlt]⟩, Pv (i + 1), fun σ' H' p' => ⟨xs.length - (i + 1), by omega, rfl, hlt, p'⟩, fun x H' y => ?_⟩
    obtain ⟨e, y⟩ := y
    subst e
    exact hs i x σ _ (y xs q) p
  · have e : i = xs.length := by omega
    subst e
    exact .inl ⟨⟨xs, q, Nat.le_refl _⟩, hd σ H p⟩
abbrev R2 := V -> V -> Hp -> VK -> Prop
def OpR (X : Cx) (f : Value -> Value -> Sem Value) (r : R2) : Prop :=
  ∀ (pins : List (Addr × Obj)) (s : Shared) (σ : St) (H : Hp) (x y : V) (v u : Value) (Q : VK), Inv X pins σ H s -> RelV x v -> RelV y u -> r x y H Q ->
    wpAny (model X.prog X.w) X.A (f v u) (EP X pins σ Q) X.xe s
def UnR (X : Cx) (f : Value -> Sem Value) (r : V -> Hp -> VK -> Prop) : Prop :=
  ∀ (pins : List (Addr × Obj)) (s : Shared) (σ : St) (H : Hp) (x : V) (v : Value) (Q : VK), Inv X pins σ H s -> RelV x v -> r x H Q ->
    wpAny (model X.prog X.w) X.A (f v) (EP X pins σ Q) X.xe s
def CallR (X : Cx) (f : Value) (r : List V -> Hp -> VK -> Prop) : Prop :=
  ∀ (pins : List (Addr × Obj)) (s : Shared) (σ : St) (H : Hp) (xs : List V) (us : List Value) (Q : VK), Inv X pins σ H s -> Vals xs us -> r xs H Q ->
    wpAny (model X.prog X.w) X.A (call f us) (EP X pins σ Q) X.xe s
def TruR (X : Cx) (r : V -> Hp -> (Bool -> Hp -> Prop) -> Prop) : Prop :=
  ∀ (pins : List (Addr × Obj)) (s : Shared) (σ : St) (H : Hp) (x : V) (v : Value) (Q : Bool -> Hp -> Prop), Inv X pins σ H s -> RelV x v -> r x H Q ->
    wpAny (model X.prog X.w) X.A (truthy v) (TP X pins σ Q) X.xe s
def tOp (r : R2) (ta tb : TE) : TE := fun σ H Q => ta σ H fun x H1 => tb σ H1 fun y H2 => r x y H2 Q
def tUn (r : V -> Hp -> VK -> Prop) (ta : TE) : TE := fun σ H Q => ta σ H fun x H1 => r x H1 Q
def rI (C : Int -> Int -> Prop) (g : Int -> Int -> V) : R2 := fun x y H Q => ∃ i j, x = .int i /\ y = .int j /\ C i j /\ Q (g i j) H
def rI0 (g : Int -> Int -> V) : R2 := fun x y H Q => ∃ i j, x = .int i /\ y = .int j /\ Q (g i j) H
def rU (g : Int -> V) : V -> Hp -> VK -> Prop := fun x H Q => ∃ i, x = .int i /\ Q (g i) H
section
variable {X : Cx} {a b c : Expr} {ta tb tc : TE} {pos : Pos}
theorem binT (ha : PE X a ta) (hb : PE X b tb) {pins : List (Addr × Obj)} {s : Shared} {σ : St} {H : Hp} {R : V -> V -> Hp -> Prop} (I : Inv X pins σ H s)
    (h : ta σ H fun x H1 => tb σ H1 fun y H2 => R x y H2) {Q : Value -> Shared -> Prop} {f : Value -> Value -> Sem Value}
    (hf : ∀ v u s2 x y H2, Inv X pins σ H2 s2 -> RelV x v -> RelV y u -> R x y H2 -> wpAny (model X.prog X.w) X.A (f v u) Q X.xe s2) :
    wpAny (model X.prog X.w) X.A (eval a X.env) (fun v s₁ => wpAny (model X.prog X.w) X.A (eval b X.env) (fun u s₂ => wpAny (model X.prog X.w) X.A (f v u) Q X.xe s₂) X.xe s₁) X.xe s := by
  refine thn (ha pins s σ H _ I h) fun v s1 ⟨x, H1, I1, r1, q1⟩ => ?_
  refine thn (hb pins s1 σ H1 _ I1 q1) fun u s2 ⟨y, H2, I2, r2, q2⟩ => ?_
  exact hf v u s2 x y H2 I2 r1 r2 q2
theorem pe_op {op : Operator} {r : R2} (ho : OpR X (binaryOp op) r) (ha : PE X a ta) (hb : PE X b tb) : PE X (.BinOp a op b pos) (tOp r ta tb) := by
  intro pins s σ H Q I h
  exact wpAny_BinOp (binT ha hb I h fun v u s2 x y H2 I2 rx ry q => ho pins s2 σ H2 x y v u Q I2 rx ry q)
theorem pe_un {op : UnaryOp} {r : V -> Hp -> VK -> Prop} (ho : UnR X (unaryOp op) r) (ha : PE X a ta) : PE X (.UnaryOp op a pos) (tUn r ta) := by
  intro pins s σ H Q I h
  exact UnaryOp_ (thn (ha pins s σ H _ I h) fun v s1 ⟨x, H1, I1, r1, q1⟩ => ho pins s1 σ H1 x v Q I1 r1 q1)
theorem opI {f : Value -> Value -> Sem Value} {C : Int -> Int -> Prop} {g : Int -> Int -> Int}
    (rule : ∀ (i j : Int) (t u : Tok) (s : Shared) (Q : Value -> Shared -> Prop) (E : Value -> Shared -> Prop), C i j -> Q (.int (g i j) s.toks) { s with toks := s.toks + 1 } -> wpAny (model X.prog X.w) X.A (f (.int i t) (.int j u)) Q E s) :
    OpR X f (rI C fun i j => .int (g i j)) := by
  intro pins s σ H x y v u Q I rx ry h
  obtain ⟨i, j, rfl, rfl, hc, q⟩ := h
  obtain ⟨t, rfl⟩ := rx
  obtain ⟨t', rfl⟩ := ry
  exact rule i j t t' s _ _ hc ⟨.int (g i j), H, I.tok _, ⟨_, rfl⟩, q⟩
theorem opI0 {f : Value -> Value -> Sem Value} {g : Int -> Int -> Int}
    (rule : ∀ (i j : Int) (t u : Tok) (s : Shared) (Q : Value -> Shared -> Prop) (E : Value -> Shared -> Prop), Q (.int (g i j) s.toks) { s with toks := s.toks + 1 } -> wpAny (model X.prog X.w) X.A (f (.int i t) (.int j u)) Q E s) :
    OpR X f (rI0 fun i j => .int (g i j)) := by
  intro pins s σ H x y v u Q I rx ry h
  obtain ⟨i, j, rfl, rfl, q⟩ := h
  obtain ⟨t, rfl⟩ := rx
  obtain ⟨t', rfl⟩ := ry
  exact rule i j t t' s _ _ ⟨.int (g i j), H, I.tok _, ⟨_, rfl⟩, q⟩
theorem opB0 {f : Value -> Value -> Sem Value} {g : Int -> Int -> Bool}
    (rule : ∀ (i j : Int) (t u : Tok) (s : Shared) (Q : Value -> Shared -> Prop) (E : Value -> Shared -> Prop), Q (.bool (g i j)) s -> wpAny (model X.prog X.w) X.A (f (.int i t) (.int j u)) Q E s) :
    OpR X f (rI0 fun i j => .bl (g i j)) := by
  intro pins s σ H x y v u Q I rx ry h
  obtain ⟨i, j, rfl, rfl, q⟩ := h
  obtain ⟨t, rfl⟩ := rx
  obtain ⟨t', rfl⟩ := ry
  exact rule i j t t' s _ _ ⟨.bl (g i j), H, I, rfl, q⟩
def CDiv (i j : Int) : Prop := 0 < j /\ j < 1073741824
def CPow (i j : Int) : Prop := 0 <= j /\ j <= 1000000 /\ i.natAbs < 2 ^ 64
def CMul (i j : Int) : Prop := (-(2 ^ 64) < i /\ i < 2 ^ 64) ∨ (-(2 ^ 64) < j /\ j < 2 ^ 64)
theorem CMul.ok {i j : Int} (h : CMul i j) : IntMulOk i j := by
  rcases h with ⟨h1, h2⟩ | ⟨h1, h2⟩
  · exact .of_left (intBits_le_64 h1 h2)
  · exact .of_right (intBits_le_64 h1 h2)
theorem two_pow_nn (k : Nat) : (0 : Int) <= 2 ^ k := by
  rw [two_pow_cast]
  exact Int.natCast_nonneg _
theorem op_add : OpR X (binaryOp .Add) (rI0 fun i j => .int (i + j)) := opI0 fun _ _ _ _ _ _ _ q => add_int q
theorem op_mul : OpR X (binaryOp .Mult) (rI CMul fun i j => .int (i * j)) := opI fun _ _ _ _ _ _ _ hc q => mul_int q hc.ok
theorem op_fdiv : OpR X (binaryOp .FloorDiv) (rI CDiv fun i j => .int (i / j)) := opI fun i j _ _ _ _ _ hc q => by
  have h1 : (0 : Int) < j := hc.1
  have h2 : j < 1073741824 := hc.2
  exact floordiv_int (by omega) (by rw [Int.fdiv_eq_ediv_of_nonneg i (by omega)]; exact q) (.inl (PyProof.noPylong_small (by omega)))
theorem op_mod : OpR X (binaryOp .Mod) (rI (fun _ j => 0 < j) fun i j => .int (i % j)) := opI fun i j _ _ _ _ _ hc q => by
  have h1 : (0 : Int) < j := hc
  exact mod_int' (by omega) (by rw [Int.fmod_eq_emod_of_nonneg i (by omega)]; exact q)
theorem op_pow : OpR X (binaryOp .Pow) (rI CPow fun i j => .int (i ^ j.toNat)) := opI fun _ _ _ _ _ _ _ hc q => pow_int_small hc.1 hc.2.1 hc.2.2 q
theorem op_shr : OpR X (binaryOp .RShift) (rI (fun _ j => 0 <= j) fun i j => .int (i / 2 ^ j.toNat)) := opI fun i j _ _ _ _ _ hc q =>
  rshift_int hc (by rw [Int.fdiv_eq_ediv_of_nonneg i (two_pow_nn _)]; exact q)
theorem op_and : OpR X (binaryOp .BitAnd) (rI0 fun i j => .int (Builtin.bitAnd i j)) := opI0 fun _ _ _ _ _ _ _ q => and_int q
theorem unI {f : Value -> Sem Value} {g : Int -> Int}
    (rule : ∀ (i : Int) (t : Tok) (s : Shared) (Q : Value -> Shared -> Prop) (E : Value -> Shared -> Prop), Q (.int (g i) s.toks) { s with toks := s.toks + 1 } -> wpAny (model X.prog X.w) X.A (f (.int i t)) Q E s) :
    UnR X f (rU fun i => .int (g i)) := by
  intro pins s σ H x v Q I rx h
  obtain ⟨i, rfl, q⟩ := h
  obtain ⟨t, rfl⟩ := rx
  exact rule i t s _ _ ⟨.int (g i), H, I.tok _, ⟨_, rfl⟩, q⟩
theorem un_neg : UnR X (unaryOp .USub) (rU fun i => .int (-i)) := unI fun _ _ _ _ _ q => neg_int q
end
def scal : V -> V -> Bool
  | .non, .non => true | .non, .int _ => true | .int _, .non => true | .non, .bl _ => true | .bl _, .non => true | .non, .str _ => true | .str _, .non => true
  | .int _, .int _ => true | .bl _, .bl _ => true | .str _, .str _ => true | .byt _, .byt _ => true
  | .int _, .str _ => true | .str _, .int _ => true | .bl _, .str _ => true | .str _, .bl _ => true
  | _, _ => false
section
variable {X : Cx} {a b c : Expr} {ta tb tc : TE} {pos : Pos}
theorem fin_bl {pins : List (Addr × Obj)} {σ : St} {H : Hp} {s : Shared} {Q : VK} {k k' : Bool} (I : Inv X pins σ H s) (q : Q (.bl k) H) (e : k = k') : EP X pins σ Q (.bool k') s := by
  subst e
  exact ⟨.bl k, H, I, rfl, q⟩
theorem op_lt : OpR X (compareOp .Lt) (rI0 fun i j => .bl (decide (i < j))) := opB0 fun _ _ _ _ _ _ _ q => lt_int q
theorem op_le : OpR X (compareOp .LtE) (rI0 fun i j => .bl (decide (i <= j))) := opB0 fun _ _ _ _ _ _ _ q => le_int q
theorem op_gt : OpR X (compareOp .Gt) (rI0 fun i j => .bl (decide (j < i))) := opB0 fun _ _ _ _ _ _ _ q => gt_int q
theorem op_in_str : OpR X (compareOp .In) (fun x y H Q => ∃ i j, x = .str i /\ y = .str j /\ Q (.bl (!(Builtin.Str.occurrences j i 0 j.length 1).isEmpty)) H) := by
  intro pins s σ H x y v u Q I rx ry h
  obtain ⟨i, j, rfl, rfl, q⟩ := h
  obtain ⟨t, rfl⟩ := rx
  obtain ⟨t', rfl⟩ := ry
  exact in_str (fin_bl I q rfl)
theorem OpR.or {f : Value -> Value -> Sem Value} {r r' : R2} (h : OpR X f r) (h' : OpR X f r') : OpR X f (fun x y H Q => r x y H Q ∨ r' x y H Q) := by
  intro pins s σ H x y v u Q I rx ry q
  rcases q with q | q
  · exact h pins s σ H x y v u Q I rx ry q
  · exact h' pins s σ H x y v u Q I rx ry q
theorem nomark (b : Expr) {op : CmpOp} (h : op ≠ .In := by decide) (h2 : op ≠ .NotIn := by decide) : behindInMarks op b = false := by
  have e1 : (op == CmpOp.In) = false := by cases op <;> first | rfl | exact absurd rfl h
  have e2 : (op == CmpOp.NotIn) = false := by cases op <;> first | rfl | exact absurd rfl h2
  cases b <;> simp [behindInMarks, e1, e2]
theorem pe_cmpR {op : CmpOp} {r : R2} (ho : OpR X (compareOp op) r) (ha : PE X a ta) (hb : PE X b tb) (hm : behindInMarks op b = false) : PE X (.Compare a [op] [b] pos) (tOp r ta tb) := by
  intro pins s σ H Q I h
  exact wpAny_Compare1 (binT ha hb I h fun v u s2 x y H2 I2 rx ry q => ho pins s2 σ H2 x y v u Q I2 rx ry q) hm
def tTest (t : TE) : TT := fun σ H Q => t σ H fun x H' => ∃ k, x = .bl k /\ Q k H'
theorem pt_cmpR {op : CmpOp} {r : R2} (ho : OpR X (compareOp op) r) (ha : PE X a ta) (hb : PE X b tb) (hm : behindInMarks op b = false) : PT X (.Compare a [op] [b] pos) (tTest (tOp r ta tb)) := by
  intro pins s σ H Q I h
  refine wpAny_isTrue_Compare1 (thn (ha pins s σ H _ I h) fun v s1 ⟨x, H1, I1, r1, q1⟩ => thn (hb pins s1 σ H1 _ I1 q1) fun u s2 ⟨y, H2, I2, r2, q2⟩ =>
    thn (ho pins s2 σ H2 x y v u _ I2 r1 r2 q2) fun c s3 ⟨z, H3, I3, r3, k, e, q3⟩ => ?_) hm
  subst e
  cases r3
  exact wpAny_truthy_bool ⟨H3, I3, q3⟩
def tChain (r r' : R2) (ta tb tc : TE) : TE := fun σ H Q => ta σ H fun x H1 => tb σ H1 fun y H2 => r x y H2 fun z H3 => ∃ k, z = .bl k /\
  (if k = true then tc σ H3 fun w' H4 => r' y w' H4 Q else Q (.bl false) H3)
theorem pt_chain {op op' : CmpOp} {r r' : R2} (ho : OpR X (compareOp op) r) (ho' : OpR X (compareOp op') r') (ha : PE X a ta) (hb : PE X b tb) (hc : PE X c tc)
    (hm : lastMarks [op, op'] [b, c] = false := by with_unfolding_all rfl) : PT X (.Compare a [op, op'] [b, c] pos) (tTest (tChain r r' ta tb tc)) := by
  intro pins s σ H Q I h
  refine isTrue_chain (thn (ha pins s σ H _ I h) fun v s1 ⟨x, H1, I1, r1, q1⟩ => test_link (thn (hb pins s1 σ H1 _ I1 q1) fun u s2 ⟨y, H2, I2, r2, q2⟩ =>
    thn (ho pins s2 σ H2 x y v u _ I2 r1 r2 q2) fun d s3 ⟨z, H3, I3, r3, k, e, q3⟩ => ?_)) hm
  subst e
  cases r3
  refine wpAny_truthy_bool ?_
  cases k with
  | false =>
    obtain ⟨k', e', q'⟩ := q3
    cases e'
    exact ite_ff ⟨H3, I3, q'⟩
  | true =>
    refine ite_tt (test_last (thn (hc pins s3 σ H3 _ I3 q3) fun w' s4 ⟨z', H4, I4, r4, q4⟩ => thn (ho' pins s4 σ H4 y z' u w' _ I4 r2 r4 q4) fun d' s5 ⟨z2, H5, I5, r5, k2, e2, q5⟩ => ?_))
    subst e2
    cases r5
    exact wpAny_truthy_bool ⟨H5, I5, q5⟩
def TruV (K : PySem.W.Frag) (x : V) (H : Hp) (k : Bool) : Prop :=
  match x with
  | .non => k = false
  | .bl b => k = b
  | .int i => k = (i != 0)
  | .str y => y.length <= sizeLine /\ k = ((y.length : Int) != 0)
  | .byt y => y.size <= sizeLine /\ k = ((y.size : Int) != 0)
  | .ref p => (∃ xs, SqL K H p xs /\ k = !xs.isEmpty) ∨ (∃ xs, SqT K H p xs /\ k = !xs.isEmpty) ∨ ∃ kvs, H p = some (.dK kvs) /\ k = !kvs.isEmpty
  | _ => False
theorem isEmpty_kv {κ : Type} {kvs : List (κ × V)} {vs : List (κ × Value)} (r : KV kvs vs) : (!vs.isEmpty) = !kvs.isEmpty := by
  cases r <;> rfl
theorem isEmpty_of {xs : List V} {its : List Value} (r : Vals xs its) : (!its.toArray.isEmpty) = !xs.isEmpty := by
  cases r <;> simp
theorem line63 : (sizeLine : Nat) < 2 ^ 63 := by rw [sizeLine_eq]; decide
theorem tru_ok : TruR X (fun x H Q => ∃ k, TruV X.K x H k /\ Q k H) := by
  intro pins s σ H x v Q I rx h
  obtain ⟨k, e, q⟩ := h
  have hl := line63
  have hs : sizeLine = 16777216 := sizeLine_eq
  cases x with
  | non =>
    cases rx
    have e' : k = false := e
    subst e'
    exact truthy_none ⟨H, I, q⟩
  | bl b =>
    cases rx
    have e' : k = b := e
    subst e'
    exact wpAny_truthy_bool ⟨H, I, q⟩
  | int i =>
    obtain ⟨t, rfl⟩ := rx
    have e' : k = (i != 0) := e
    subst e'
    exact PySem.P.truthy_int ⟨H, I, q⟩
  | str y =>
    obtain ⟨t, rfl⟩ := rx
    obtain ⟨hy, e'⟩ : y.length <= sizeLine /\ k = ((y.length : Int) != 0) := e
    subst e'
    exact PySem.P.truthy_str (by omega) ⟨H, I.tok _, q⟩
  | byt y =>
    obtain ⟨t, rfl⟩ := rx
    obtain ⟨hy, e'⟩ : y.size <= sizeLine /\ k = ((y.size : Int) != 0) := e
    subst e'
    exact PySem.W.truthy_bytes (by omega) ⟨H, I.tok _, q⟩
  | ref p =>
    cases rx
    have e' : (∃ xs, SqL X.K H p xs /\ k = !xs.isEmpty) ∨ (∃ xs, SqT X.K H p xs /\ k = !xs.isEmpty) ∨ ∃ kvs, H p = some (.dK kvs) /\ k = !kvs.isEmpty := e
    rcases e' with ⟨xs, hx, e'⟩ | ⟨xs, hx, e'⟩ | ⟨kvs, hx, e'⟩
    · subst e'
      obtain ⟨its, r, pl, hz⟩ := I.list hx
      have hlen := r.length
      exact wpAny_truthy_list pl.isList (by simp only [List.size_toArray]; omega) ⟨H, I.tok _, by rw [isEmpty_of r]; exact q⟩
    · subst e'
      obtain ⟨its, r, pl, hz⟩ := I.tuple hx
      have hlen := r.length
      exact truthy_tuple pl (by simp only [List.size_toArray]; omega) ⟨H, I.tok _, by rw [isEmpty_of r]; exact q⟩
    · subst e'
      obtain ⟨hz, hS, vs, r, m⟩ : kvs.length <= sizeLine /\ (p == sysModules) = false /\ ∃ vs, KV kvs vs /\ s.heap.DictOf (mixKind X.prog X.w) p vs := I.hok p _ hx
      have hlen : kvs.length = vs.length := Paired.length r
      exact wpAny_truthy_dict hS m (by omega) ⟨H, I.tok _, by rw [isEmpty_kv r]; exact q⟩
  | _ => exact (show False from e).elim
theorem pt_truth (ha : PE X a ta) (he : ∀ whole, isTrue a X.env whole = (do let v <- whole; standAt a.pos; holding [v] (truthy v))) :
    PT X a (fun σ H Q => ta σ H fun x H' => ∃ k, TruV X.K x H' k /\ Q k H') := by
  intro pins s σ H Q I h
  exact isTrue_plain (thn (ha pins s σ H _ I h) fun v s1 ⟨x, H1, I1, r1, q1⟩ => tru_ok pins s1 σ H1 x v Q I1 r1 q1) (he _)
theorem op_add_str : OpR X (binaryOp .Add) (fun x y H Q => ∃ i j, x = .str i /\ y = .str j /\ i.length + j.length <= sizeLine /\ Q (.str (i ++ j)) H) := by
  intro pins s σ H x y v u Q I rx ry h
  obtain ⟨i, j, rfl, rfl, hz, q⟩ := h
  obtain ⟨t, rfl⟩ := rx
  obtain ⟨t', rfl⟩ := ry
  exact add_str (fun t' tk => ⟨.str (i ++ j), H, I.tok _, ⟨_, rfl⟩, q⟩) hz
theorem vals1 {x : V} {us : List Value} (r : Vals [x] us) : ∃ u, us = [u] /\ RelV x u := by
  cases r with
  | cons r1 r2 => cases r2; exact ⟨_, rfl, r1⟩
theorem vals2 {x y : V} {us : List Value} (r : Vals [x, y] us) : ∃ u w', us = [u, w'] /\ RelV x u /\ RelV y w' := by
  cases r with
  | cons r1 r2 =>
    cases r2 with
    | cons r3 r4 => cases r4; exact ⟨_, _, rfl, r1, r3⟩
def LenV (K : PySem.W.Frag) (x : V) (H : Hp) (n : Nat) : Prop :=
  match x with
  | .str y => y.length <= sizeLine /\ n = y.length
  | .byt y => y.size <= sizeLine /\ n = y.size
  | .ref p => (∃ xs, SqL K H p xs /\ n = xs.length) ∨ ∃ xs, SqT K H p xs /\ n = xs.length
  | _ => False
theorem call_len : CallR X (.builtin "len") (fun xs H Q => ∃ x n, xs = [x] /\ LenV X.K x H n /\ Q (.int n) H) := by
  intro pins s σ H xs us Q I r h
  obtain ⟨x, n, rfl, e, q⟩ := h
  obtain ⟨u, rfl, rx⟩ := vals1 r
  have hl := line63
  have hs : sizeLine = 16777216 := sizeLine_eq
  cases x with
  | str y =>
    obtain ⟨t, rfl⟩ := rx
    obtain ⟨hy, e'⟩ : y.length <= sizeLine /\ n = y.length := e
    subst e'
    exact len_str (by omega) ⟨.int _, H, I.tok _, ⟨_, rfl⟩, q⟩
  | byt y =>
    obtain ⟨t, rfl⟩ := rx
    obtain ⟨hy, e'⟩ : y.size <= sizeLine /\ n = y.size := e
    subst e'
    exact PySem.W.len_bytes (by omega) ⟨.int _, H, I.tok _, ⟨_, rfl⟩, q⟩
  | ref p =>
    cases rx
    have e' : (∃ xs, SqL X.K H p xs /\ n = xs.length) ∨ ∃ xs, SqT X.K H p xs /\ n = xs.length := e
    rcases e' with ⟨xs, hx, e'⟩ | ⟨xs, hx, e'⟩
    · subst e'
      obtain ⟨its, r', pl, hz⟩ := I.list hx
      have hlen := r'.length
      exact Calls.call_len_list pl.isList (by simp only [List.size_toArray]; omega) ⟨.int xs.length, H, I.tok _, ⟨_, by simp only [List.size_toArray]; rw [hlen]⟩, q⟩
    · subst e'
      obtain ⟨its, r', pl, hz⟩ := I.tuple hx
      have hlen := r'.length
      exact len_tuple pl (by simp only [List.size_toArray]; omega) ⟨.int xs.length, H, I.tok _, ⟨_, by simp only [List.size_toArray]; rw [hlen]⟩, q⟩
  | _ => exact (show False from e).elim
end
structure ObjM (h : Heap) (x dx C : Addr) (mA : Str -> Option Value) : Prop where
  obj : h.get? x = some (PySem.W.instObj C dx)
  ns : h.Ns1 dx mA
  ne : dx ≠ x
theorem lookIn_ns {h : Heap} {dx : Addr} {mA : Str -> Option Value} (n : h.Ns1 dx mA) : ∃ od, h.get? dx = some od /\ ∀ name, PySem.W.lookIn name od = some (mA name) := by
  obtain ⟨o, es, ep, ho, hd, hk, _, hm⟩ := n
  refine ⟨o, ho, fun name => ?_⟩
  have e := hm name
  unfold nsFind findBy at e
  rw [<- Array.find?_toList] at e
  unfold PySem.W.lookIn
  rw [hd]
  dsimp only
  split
  · rename_i y q
    rw [q] at e
    exact congrArg some e
  · rename_i q
    rw [q] at e
    have a : es.toList.any (·.refKey) = false := by
      rw [List.any_eq_false]
      intro y hy
      obtain ⟨z, t, hkey⟩ := hk y (Array.mem_toList_iff.mp hy)
      simp [DictEntry.refKey, hkey]
    have a' : ¬ es.toList.any (·.refKey) = true := by rw [a]; exact Bool.false_ne_true
    rw [if_neg a']
    exact congrArg some e
theorem ObjM.look {h : Heap} {x dx C : Addr} {mA : Str -> Option Value} (I : ObjM h x dx C mA) : ∃ od, PySem.W.InstAt h x (PySem.W.instObj C dx) C (some od) /\ ∀ name, PySem.W.lookIn name od = some (mA name) :=
  let ⟨od, ho, hl⟩ := lookIn_ns I.ns
  ⟨od, ⟨I.obj, rfl, rfl, ho⟩, hl⟩
section
variable {prog : Program} {w : World} {A : Around} {E : Value -> Shared -> Prop} {s : Shared} {K : PySem.W.Frag} {x dx C f : Addr} {mA : Str -> Option Value} {name : Str} {v : Value}
end
section
variable {P : Program} {w : World} {H H' : Hp} {h h' : Heap} {a C dx : Addr} {fs fs' : List (Str × V)}
theorem ins_get (hok : HOk P w H h) (e : H a = some (.ins C dx fs)) : ∃ mA, ObjM h a dx C mA /\ (∀ f, RelO (fs.lookup f) (mA f)) /\ PySem.Within mA (fs.map (·.1)) /\ fs.length <= 1000 /\ H dx = some (.own a) := by
  obtain ⟨d, z, ne, ob, mA, n, r, q⟩ := (show ObjOk P w H h a (.ins C dx fs) from hok a _ e)
  exact ⟨mA, ⟨ob, n, ne⟩, r, q, z, d⟩
end
structure Cls (K : PySem.W.Frag) (C : Addr) : Prop where
  pg : PySem.W.plainGet K C Str.empty = true
  hd : PySem.W.hasDictIn K C = true
  po : PySem.W.plainOver K C = true
  sa : PySem.W.findIn K (.ref C) "__setattr__" = some (some (.builtin "object.__setattr__"))
theorem Cls.get {K : PySem.W.Frag} {C : Addr} (c : Cls K C) (f : Str) : PySem.W.plainGet K C f = true := c.pg
structure Con (K : PySem.W.Frag) (C : Addr) (f : Str) (v : V) (u : Value) : Prop where
  at_ : PySem.W.findIn K (.ref C) f = some (some u)
  rel : RelV v u
  get : PySem.W.specialIn K u "__get__" = some none
  cp : PySem.W.copiedNames.contains f = false
structure Meth (K : PySem.W.Frag) (C : Addr) (m : Str) (f : Addr) : Prop where
  at_ : PySem.W.findIn K (.ref C) m = some (some (.ref f))
  fn : PySem.W.isFn K (.ref f) = true
  kp : PySem.W.keepIn K (.ref f) = true
section
variable {X : Cx} {pins : List (Addr × Obj)} {σ : St} {H : Hp} {s : Shared} {a C dx : Addr} {fs : List (Str × V)} {f : Str} {v : V} {A : Around} {E : Value -> Shared -> Prop}
end
section
variable {X : Cx} {o e value : Expr} {f : Str} {pos pos' tpos : Pos} {ta tv : TE}
end
section
variable {X : Cx} {pins : List (Addr × Obj)} {σ : St} {H : Hp} {s : Shared} {A : Around} {E : Value -> Shared -> Prop} {Q : Value -> Shared -> Prop} {c : Value} {b : Bool}
inductive TyOf (K : PySem.W.Frag) (H : Hp) : V -> Value -> Prop where
  | non : TyOf K H .non (.type "NoneType")
  | bl (x : Bool) : TyOf K H (.bl x) (.type "bool")
  | int (i : Int) : TyOf K H (.int i) (.type "int")
  | str (x : Str) : TyOf K H (.str x) (.type "str")
  | flt (x : UInt64) : TyOf K H (.flt x) (.type "float")
  | lst {a : Addr} {xs : List V} (e : H a = some (.lst xs)) : TyOf K H (.ref a) (.type "list")
  | frz {a : Addr} {o : Obj} {xs : List V} (e : H a = some (.frz o (.lst xs))) : TyOf K H (.ref a) (.type "list")
  | tup {a : Addr} {xs : List V} (e : H a = some (.tup xs)) : TyOf K H (.ref a) (.type "tuple")
  | dK {a : Addr} {kvs : List (Key × V)} (e : H a = some (.dK kvs)) : TyOf K H (.ref a) (.type "dict")
  | dT {a : Addr} {kvs : List (List Key × V)} (e : H a = some (.dT kvs)) : TyOf K H (.ref a) (.type "dict")
  | ins {a C dx : Addr} {fs : List (Str × V)} (e : H a = some (.ins C dx fs)) (cl : Cls K C) (ha : PySem.W.findIn K (.ref C) "__class__" = some (some (.builtin "object.__class__")))
      (hn : PySem.W.specialIn K (.builtin "object.__class__") "__get__" = some (some (.builtin "getset_descriptor.__get__"))) (htk : PySem.W.takesIn K (.builtin "object.__class__") = some true)
      (hm : PySem.W.mroIn K C (.type "object") = some true) : TyOf K H (.ref a) (.ref C)
theorem isinst_ok {x : V} {u t : Value} (I : Inv X pins σ H s) (rx : RelV x u) (ty : TyOf X.K H x t) (e : PySem.W.kitOne X.K t c = some b) (h : ∀ tk, Q (.bool b) { s with toks := tk }) :
    wpAny (model X.prog X.w) A (call (.builtin "isinstance") [u, c]) Q E s := by
  cases ty with
  | non => cases (show u = Value.none from rx); exact PySem.W.kia_one PySem.W.kitx_none I.kIn True.intro e (fun z => nomatch z) h
  | bl y => cases (show u = Value.bool y from rx); exact PySem.W.kia_one PySem.W.kitx_bool I.kIn True.intro e (fun z => nomatch z) h
  | int i => obtain ⟨t, q⟩ := (show ∃ t, u = Value.int i t from rx); cases q; exact PySem.W.kia_one PySem.W.kitx_int I.kIn True.intro e (fun z => nomatch z) h
  | str y => obtain ⟨t, q⟩ := (show ∃ t, u = Value.str y t from rx); cases q; exact PySem.W.kia_one PySem.W.kitx_str I.kIn True.intro e (fun z => nomatch z) h
  | flt y => obtain ⟨t, q⟩ := (show ∃ t, u = Value.float y t from rx); cases q; exact PySem.W.kia_one PySem.W.kitx_float I.kIn True.intro e (fun z => nomatch z) h
  | @lst a xs ea =>
    cases (show u = Value.ref a from rx)
    obtain ⟨_, _, n, _, h1⟩ := (show ObjOk X.prog X.w H s.heap a (.lst xs) from I.hok a _ ea)
    exact PySem.W.kia_one PySem.W.kitx_list I.kIn ⟨_, h1, rfl⟩ e (fun z => nomatch z) h
  | @frz a ob xs ea =>
    cases (show u = Value.ref a from rx)
    obtain ⟨_, _, _, n, _, h1⟩ := (show ObjOk X.prog X.w H s.heap a (.frz ob (.lst xs)) from I.hok a _ ea)
    exact PySem.W.kia_one PySem.W.kitx_list I.kIn ⟨_, h1, rfl⟩ e (fun z => nomatch z) h
  | @tup a xs ea =>
    cases (show u = Value.ref a from rx)
    obtain ⟨_, _, _, p⟩ := (show ObjOk X.prog X.w H s.heap a (.tup xs) from I.hok a _ ea)
    obtain ⟨o, h1, h2, _⟩ := p
    exact PySem.W.kia_one PySem.W.kitx_tuple I.kIn ⟨o, h1, h2⟩ e (fun z => nomatch z) h
  | @dK a kvs ea =>
    cases (show u = Value.ref a from rx)
    obtain ⟨_, _, vs, _, p⟩ := (show ObjOk X.prog X.w H s.heap a (.dK kvs) from I.hok a _ ea)
    obtain ⟨o, es, ep, h1, h2, _⟩ := p
    exact PySem.W.kia_one PySem.W.kitx_dict I.kIn ⟨o, h1, h2.1⟩ e (fun z => nomatch z) h
  | @dT a kvs ea =>
    cases (show u = Value.ref a from rx)
    obtain ⟨_, _, xs, _, o, es, ep, h1, h2, _⟩ := (show ObjOk X.prog X.w H s.heap a (.dT kvs) from I.hok a _ ea)
    exact PySem.W.kia_one PySem.W.kitx_dict I.kIn ⟨o, h1, h2.1⟩ e (fun z => nomatch z) h
  | @ins a C dx fs ea cl ha hn htk hm =>
    cases (show u = Value.ref a from rx)
    obtain ⟨mA, O, _⟩ := ins_get I.hok ea
    obtain ⟨od, J, _⟩ := O.look
    exact PySem.W.kia_one (PySem.W.kitx_own (cl.get _) cl.hd ha hn htk hm) I.kIn J e (fun z => nomatch z) h
end
structure Room (k : Nat) (A : Around) : Prop where
  hd : A.handled = none
  dp : A.depth + 3 * k + 5 < recursionLimit
  un : A.units + 16 * k + 200 < cLine
theorem Room.mono {j k : Nat} {A : Around} (r : Room k A) (h : j <= k) : Room j A := ⟨r.hd, by have := r.dp; omega, by have := r.un; omega⟩
theorem Room.deeper {k : Nat} {A : Around} (r : Room (k + 1) A) (env : Env) : Room k (A.deeper env) :=
  ⟨r.hd, by have := r.dp; show A.depth + 1 + 3 * k + 5 < _; omega, by have := r.un; show A.units + 3 + 16 * k + 200 < _; omega⟩
theorem Room.depth {k : Nat} {A : Around} (r : Room k A) : A.depth < recursionLimit := by have := r.dp; omega
theorem Room.units {k : Nat} {A : Around} (r : Room k A) : A.units + 64 < cLine := by have := r.un; omega
def tNil : TA := fun _ H Q => Q [] H
def tCons (ta : TE) (tr : TA) : TA := fun σ H Q => ta σ H fun x H1 => tr σ H1 fun xs H2 => Q (x :: xs) H2
section
variable {X : Cx} {e : Expr} {es : List Expr} {te : TE} {t : TA} {pos : Pos}
theorem pa_nil : PA X [] tNil := fun _ _ _ _ H Q I h => Calls.spliced_nil ⟨[], H, I, .nil, h⟩
theorem pa_cons (ha : PE X e te) (hr : PA X es t) (hs : starEach (e :: es) X.env = (false, eval e X.env) :: starEach es X.env := by rfl) : PA X (e :: es) (tCons te t) := by
  intro pos pins s σ H Q I h
  rw [hs]
  show wpAny _ _ (spliced ((false, eval e X.env) :: backTo pos (starEach es X.env))) _ _ s
  refine Calls.spliced_cons (thn (ha pins s σ H _ I h) fun u s1 ⟨x, H1, I1, r1, q1⟩ => ?_)
  exact thn (hr pos pins s1 σ H1 _ I1 q1) fun us s2 ⟨xs, H2, I2, r2, q2⟩ => ⟨x :: xs, H2, I2, .cons r1 r2, q2⟩
def tTup (t : TA) : TE := fun σ H Q => t σ H fun xs H1 => xs.length <= sizeLine /\ ∀ p, H1 p = none -> Q (.ref p) (upd H1 p (.tup xs))
def tLst (t : TA) : TE := fun σ H Q => t σ H fun xs H1 => xs.length <= sizeLine /\ ∀ p, H1 p = none -> Q (.ref p) (upd H1 p (.lst xs))
theorem pe_tup {x1} (h : PA X es t) : PE X (.Tuple es x1 pos) (tTup t) := by
  intro pins s σ H Q I hq
  refine wpAny_Tuple_spliced (thn (h pos pins s σ H _ I hq) fun us s1 ⟨xs, H1, I1, r, z, q⟩ => ⟨by rw [<- r.length]; exact z, ?_⟩)
  have hf : H1 s1.heap.objs.size = none := I1.hok.fresh (Nat.le_refl _)
  refine ⟨.ref s1.heap.objs.size, upd H1 s1.heap.objs.size (.tup xs), I1.laid (t' := s1.toks) (fun b u e => Heap.get?_push_of_some _ e) (Nat.le_refl _) ?_, rfl, q _ hf⟩
  exact ⟨z, us, r, ⟨_, Heap.get?_push_size _ rfl, rfl, _, rfl⟩⟩
theorem pe_lst (h : PA X es t) : PE X (.List es pos) (tLst t) := by
  intro pins s σ H Q I hq
  refine wpAny_List_spliced (thn (h pos pins s σ H _ I hq) fun us s1 ⟨xs, H1, I1, r, z, q⟩ => ⟨by rw [<- r.length]; exact z, ?_⟩)
  have hf : H1 s1.heap.objs.size = none := I1.hok.fresh (Nat.le_refl _)
  refine ⟨.ref s1.heap.objs.size, upd H1 s1.heap.objs.size (.lst xs), I1.laid (t' := s1.toks) (fun b u e => Heap.get?_push_of_some _ e) (Nat.le_refl _) ?_, rfl, q _ hf⟩
  exact ⟨z, us, 0, r, Heap.get?_push_size _ rfl⟩
end
abbrev Sp := List V -> Hp -> VK -> XK -> Prop
abbrev CXT := List Env -> Hp -> Shared -> XK -> Value -> Shared -> Prop
structure Env0 (P : Program) (w : World) (K : PySem.W.Frag) (mg : Str -> Option Value) (base : Heap) (A : Around) (outer : List Env) (s : Shared) (H : Hp) : Prop where
  frames : A.frames = some outer
  mod : Mod K mg base
  bs : ∀ b o, base.get? b = some o -> s.heap.get? b = some o /\ H b = none
  bsz : base.objs.size <= s.heap.objs.size
  funs : s.heap.FunFrames base outer
  frf : ∀ b ∈ frs outer, H b = none
  hok : HOk P w H s.heap
  bare : AllBare s.gens
def CE (outer : List Env) (P : Program) (w : World) (H : Hp) (s : Shared) (Q : VK) (u : Value) (s' : Shared) : Prop :=
  ∃ v H', s'.os = s.os /\ AllBare s'.gens /\ Un (frs outer) [] H H' s.heap s'.heap /\ HOk P w H' s'.heap /\ RelV v u /\ Q v H'
def CR (CX : CXT) (outer : List Env) (P : Program) (w : World) (H : Hp) (s : Shared) (Q : VK) (E : XK) (r : Result) (s' : Shared) : Prop :=
  match r with
  | .ok (.ret u) => CE outer P w H s Q u s'
  | .ok _ => False
  | .error e => CX outer H s E e s'
structure FnOk (P : Program) (w : World) (K : PySem.W.Frag) (mg : Str -> Option Value) (base : Heap) (CX : CXT) (k : Nat) (f : Addr) (fd : FuncData) (ps : List Str) (sp : Sp) : Prop where
  len : ∀ vs H Q E, sp vs H Q E -> vs.length = ps.length
  run : ∀ (A : Around) (outer : List Env) (s : Shared) (H : Hp) (args : Args) (us : List Value) (vs : List V) (Q : VK) (E : XK), Room k A -> Env0 P w K mg base A outer s H -> BindsTo s fd args (ps.zip us) -> Vals vs us -> sp vs H Q E ->
    codeAny (model P w) A (.call (.ref f) args) (CR CX outer P w H s Q E) s
theorem FnOk.imp {P : Program} {w : World} {K : PySem.W.Frag} {mg : Str -> Option Value} {base : Heap} {CX : CXT} {k : Nat} {f : Addr} {fd : FuncData} {ps : List Str} {sp sp' : Sp} (F : FnOk P w K mg base CX k f fd ps sp)
    (h : ∀ vs H Q E, sp' vs H Q E -> sp vs H Q E) : FnOk P w K mg base CX k f fd ps sp' :=
  ⟨fun vs H Q E q => F.len vs H Q E (h _ _ _ _ q), fun A outer s H args us vs Q E hr he hb hv hs => F.run A outer s H args us vs Q E hr he hb hv (h _ _ _ _ hs)⟩
section
variable {X : Cx} {pins : List (Addr × Obj)} {σ : St} {H : Hp} {s s' : Shared}
theorem Inv.env0 (I : Inv X pins σ H s) : Env0 X.prog X.w X.K X.mg X.base X.A X.stack s H :=
  ⟨I.ok.frames, I.ok.mod, I.bs, Nat.le_trans I.ok.bsz I.sz, I.stack, I.stkFree, I.hok, I.bare⟩
theorem Inv.after {Q : VK} {u : Value} (I : Inv X pins σ H s) (h : CE X.stack X.prog X.w H s Q u s') : EP X pins σ Q u s' := by
  obtain ⟨v, H', os, bare, un, hok, r, q⟩ := h
  obtain ⟨hh, g, d, t, os'⟩ := s'
  obtain rfl : os' = s.os := os
  exact ⟨v, H', I.call (h' := hh) (g' := g) (d' := d) (t' := t) (ch := []) un hok bare (fun b z => absurd z (by simp)), r, q⟩
end
def tCall (sp : Sp) (dvs : List V) (E : XK) (t : TA) : TE := fun σ H Q => t σ H fun vs H1 => sp (vs ++ dvs) H1 Q E
def Binds (K : PySem.W.Frag) (fd : FuncData) (ps : List Str) (ds : List Value) : Prop :=
  ∀ (s : Shared) (us : List Value), K.In s.heap -> (us ++ ds).length = ps.length -> BindsTo s fd ⟨us, []⟩ (ps.zip (us ++ ds))
theorem Binds.all {K : PySem.W.Frag} {fd : FuncData} {ps : List Str} (h : ∀ us : List Value, us.length = ps.length -> bindArgs fd ⟨us, []⟩ = pure (ps.zip us)) : Binds K fd ps [] := fun s us _ hl => by
  rw [List.append_nil] at hl ⊢
  exact .of_eq (h us hl)
def Passes (CX : CXT) (X : Cx) (E : XK) : Prop := ∀ (pins : List (Addr × Obj)) (σ : St) (H : Hp) (s : Shared) (e : Value) (s' : Shared), Inv X pins σ H s -> CX X.stack H s E e s' -> X.xe e s'
section
variable {X : Cx} {CX : CXT} {k : Nat} {f C : Addr} {fd : FuncData} {ps : List Str} {sp : Sp} {dvs : List V} {ds : List Value} {E : XK} {x m : Str} {p pos apos : Pos} {e o : Expr} {es : List Expr} {ta : TE} {t : TA}
theorem run_fn {pins : List (Addr × Obj)} {σ : St} {H : Hp} {s : Shared} {Q : VK} {us : List Value} {vs : List V} (F : FnOk X.prog X.w X.K X.mg X.base CX k f fd ps sp) (hr : Room k X.A) (hb : Binds X.K fd ps ds) (hd : Vals dvs ds) (hx : Passes CX X E)
    (I : Inv X pins σ H s) (r : Vals vs us) (h : sp (vs ++ dvs) H Q E) : wpAny (model X.prog X.w) X.A (call (.ref f) us) (EP X pins σ Q) X.xe s := by
  have r2 : Vals (vs ++ dvs) (us ++ ds) := r.append hd
  have hl : (us ++ ds).length = ps.length := by rw [<- r2.length]; exact F.len _ _ _ _ h
  refine wpAny_call (codeAny_mono (F.run X.A X.stack s H ⟨us, []⟩ (us ++ ds) (vs ++ dvs) Q E hr I.env0 (hb s us I.kIn hl) r2 h) fun r s' hq => ?_)
  cases r with
  | error e => exact hx pins σ H s e s' I hq
  | ok fl =>
    cases fl with
    | ret u => exact I.after hq
    | next => exact False.elim hq
    | brk => exact False.elim hq
    | cont => exact False.elim hq
theorem pe_call (F : FnOk X.prog X.w X.K X.mg X.base CX k f fd ps sp) (hr : Room k X.A) (hg : Gl X x) (hm : X.mg x = some (.ref f)) (hk : PySem.W.keepIn X.K (.ref f) = true) (hb : Binds X.K fd ps ds) (hd : Vals dvs ds) (hx : Passes CX X E)
    (ha : PA X (e :: es) t) (hdb : (x == ("__debug__" : Str)) = false := by decide) (he : starEach (e :: es) X.env = (false, eval e X.env) :: starEach es X.env := by rfl) (hpl : (backTo pos (starEach es X.env)).any (·.1) = false := by rfl) :
    PE X (.Call (.Name x p) (e :: es) [] pos) (tCall sp dvs E t) := by
  intro pins s σ H Q I h
  refine wpAny_Call_Name_kw (ld_glob I hg hm ?_ hdb)
  refine PySem.W.callWith_K (h₀ := X.base) I.ok.mod.kin hk (thn (ha pos pins s σ H _ I h) fun us s1 ⟨vs, H1, I1, r, q⟩ => ⟨I1.kIn, ?_⟩) he hpl
  exact run_fn F hr hb hd hx I1 r q
structure Mk (K : PySem.W.Frag) (C f : Addr) : Prop where
  makes : PySem.W.makesIn K C = true
  init : PySem.W.findIn K (.ref C) "__init__" = some (some (.ref f))
  fn : PySem.W.isFn K (.ref f) = true
  kp : PySem.W.keepIn K (.ref C) = true
end
section
variable {X : Cx} {CX : CXT} {k : Nat} {f C : Addr} {fd : FuncData} {ps ks : List Str} {sp : Sp} {E : XK} {x m : Str} {p pos apos kpos : Pos} {e o : Expr} {es : List Expr} {kws : List Keyword} {te ta : TE} {t tk : TA} {nm : Option Str}
structure KBinds (K : PySem.W.Frag) (fd : FuncData) (ps ks : List Str) (g : List Value -> List Value -> List Value) (gV : List V -> List V -> List V) : Prop where
  to : ∀ (s : Shared) (us ws : List Value), K.In s.heap -> (g us ws).length = ps.length -> BindsTo s fd ⟨us, ks.zip ws⟩ (ps.zip (g us ws))
  rel : ∀ {vs : List V} {us : List Value} {zs : List V} {ws : List Value}, Vals vs us -> Vals zs ws -> Vals (gV vs zs) (g us ws)
variable {g : List Value -> List Value -> List Value} {gV : List V -> List V -> List V}
end
structure FnScope (N P : List Str) (sc : Scope) : Prop where
  kind : sc.kind = .function
  co : sc.isCoroutine = false
  gen : sc.isGenerator = false
  nd : N.Nodup
  pre : N.take P.length = P
  par : ∀ x ∈ P, sc.names.lookup x = some .local ∨ sc.names.lookup x = some .cell
  nofree : ∀ y ∈ sc.names, y.2 ≠ .free
theorem bindL_out {kindOf : Str -> Option NameKind} {x : Str} : ∀ {binds : List (Str × Value)} {m : Str -> Option Value}, (∀ v, (x, v) ∉ binds) -> bindL kindOf binds m x = m x
  | [], _, _ => rfl
  | (n, v) :: r, m, h => by
    unfold bindL
    rw [bindL_out fun w hw => h w (List.mem_cons_of_mem _ hw)]
    split
    · have : x ≠ n := by rintro rfl; exact h v List.mem_cons_self
      simp [this]
    · rfl
theorem bindC_out {kindOf : Str -> Option NameKind} {x : Str} : ∀ {binds : List (Str × Value)} {m : Str -> Option Value}, (∀ v, (x, v) ∉ binds) -> bindC kindOf binds m x = m x
  | [], _, _ => rfl
  | (n, v) :: r, m, h => by
    unfold bindC
    rw [bindC_out fun w hw => h w (List.mem_cons_of_mem _ hw)]
    split
    · rfl
    · have : x ≠ n := by rintro rfl; exact h v List.mem_cons_self
      simp [this]
theorem bindL_get {kindOf : Str -> Option NameKind} {x : Str} {v : Value} : ∀ {P : List Str} {vs : List Value} {i : Nat} {m : Str -> Option Value}, P.Nodup -> P[i]? = some x -> vs[i]? = some v -> kindOf x = some .local ->
    bindL kindOf (P.zip vs) m x = some v
  | [], _, _, _, _, h, _, _ => by simp at h
  | _ :: _, [], _, _, _, _, h, _ => by simp at h
  | p :: P, w :: vs, 0, m, nd, h1, h2, hk => by
    simp at h1 h2; subst h1; subst h2
    show bindL kindOf ((p, w) :: P.zip vs) m p = _
    unfold bindL
    rw [bindL_out fun v hv => (List.nodup_cons.mp nd).1 (List.of_mem_zip hv).1, if_pos hk]
    simp
  | p :: P, w :: vs, i + 1, m, nd, h1, h2, hk => by
    show bindL kindOf ((p, w) :: P.zip vs) m x = _
    unfold bindL
    exact bindL_get (i := i) (List.nodup_cons.mp nd).2 (by simpa using h1) (by simpa using h2) hk
theorem bindC_get {kindOf : Str -> Option NameKind} {x : Str} {v : Value} : ∀ {P : List Str} {vs : List Value} {i : Nat} {m : Str -> Option Value}, P.Nodup -> P[i]? = some x -> vs[i]? = some v -> kindOf x ≠ some .local ->
    bindC kindOf (P.zip vs) m x = some v
  | [], _, _, _, _, h, _, _ => by simp at h
  | _ :: _, [], _, _, _, _, h, _ => by simp at h
  | p :: P, w :: vs, 0, m, nd, h1, h2, hk => by
    simp at h1 h2; subst h1; subst h2
    show bindC kindOf ((p, w) :: P.zip vs) m p = _
    unfold bindC
    rw [bindC_out fun v hv => (List.nodup_cons.mp nd).1 (List.of_mem_zip hv).1, if_neg hk]
    simp
  | p :: P, w :: vs, i + 1, m, nd, h1, h2, hk => by
    show bindC kindOf ((p, w) :: P.zip vs) m x = _
    unfold bindC
    exact bindC_get (i := i) (List.nodup_cons.mp nd).2 (by simpa using h1) (by simpa using h2) hk
def start (N : List Str) (vs : List V) : St := vs.map some ++ List.replicate (N.length - vs.length) none
def cxOf (CX : CXT) (P : Program) (w : World) (K : PySem.W.Frag) (mg : Str -> Option Value) (base : Heap) (N : List Str) (qual : Str) (scope : Scope) (f : Addr) (cd : Value) (A : Around) (outer : List Env) (s : Shared) (H : Hp) (E : XK) : Cx where
  prog := P
  w := w
  K := K
  mg := mg
  base := base
  A := A.deeper (envOfC qual scope s.heap.objs.size f cd)
  N := N
  s₀ := s
  H₀ := H
  env := envOfC qual scope s.heap.objs.size f cd
  outer := outer
  stack := envOfC qual scope s.heap.objs.size f cd :: outer
  ex := []
  calm := true
  fn := fun _ => true
  pn := []
  xe := fun e s' => wpAny (model P w) (A.deeper (envOfC qual scope s.heap.objs.size f cd)) (leaving (envOfC qual scope s.heap.objs.size f cd) e) (fun _ s'' => CX outer H s E e s'') (fun e' s'' => CX outer H s E e' s'') s'
theorem cell_has {sc : Scope} {n : Nat} {x : Str} (h : sc.names.lookup x = some .cell) : ∃ c, (cellsFrom n sc.names []).lookup x = some c := by
  have q := PySem.W.cellsFrom_some sc.names n [] (.inl h)
  exact Option.isSome_iff_exists.mp q
theorem inv_start {CX : CXT} {P : Program} {w : World} {K : PySem.W.Frag} {mg : Str -> Option Value} {base : Heap} {N ps : List Str} {qual : Str} {scope : Scope} {f : Addr} {cd : Value} {A : Around} {outer : List Env} {s s1 : Shared} {H : Hp} {E : XK} {us : List Value} {vs : List V}
    (S : FnScope N ps scope) (hd : A.handled = none) (e0 : Env0 P w K mg base A outer s H) (hl : vs.length = ps.length) (r : Vals vs us)
    (x : InCallC s s.heap.objs.size (bindL (envOfC qual scope s.heap.objs.size f cd).kindOf (ps.zip us) fun _ => none) (cellsFrom (s.heap.objs.size + 1) scope.names []) (bindC (envOfC qual scope s.heap.objs.size f cd).kindOf (ps.zip us) fun _ => none) s1) :
    Inv (cxOf CX P w K mg base N qual scope f cd A outer s H E) [] (start N vs) H s1 := by
  have hpl : ps.length <= N.length := by have := congrArg List.length S.pre; rw [List.length_take] at this; omega
  obtain ⟨h1, tk, rfl, hk⟩ := x.done
  have noA : ∀ b : Addr, b ∉ (cxOf CX P w K mg base N qual scope f cd A outer s H E).ex := fun b z => absurd (show b ∈ ([] : List Addr) from z) (by simp)
  refine ⟨⟨e0.mod, S.kind, rfl, rfl, Nat.le_refl _, fun y z c h1 h2 => ?_, fun y hy => ?_, fun y c _ h => ?_, fun _ => hd, Around.frames_deeper e0.frames, .inr ⟨rfl, rfl⟩, fun b z => absurd z (noA b), e0.bs, e0.bsz, fun b _ _ => noA b, fun b z => absurd z (noA b), e0.funs, e0.frf⟩,
    rfl, e0.bare, Un.kept hk, ⟨_, x.toInCall.ns, fun i y v h1 h2 h3 => ?_⟩, fun y c h => ⟨_, x.cell y c h⟩, e0.hok.fresh (Nat.le_refl _), fun y c h => ?_, fun p hp => absurd (show p ∈ ([] : List (Addr × Obj)) from hp) (by simp), e0.hok.kept hk, ?_⟩
  · exact name_of_addr x.apart (PySem.mem_of_lookup h1) (PySem.mem_of_lookup h2)
  · have hy : scope.names.lookup y = some .cell ∨ scope.names.lookup y = some .free := hy
    rcases hy with hy | hy
    · exact cell_has hy
    · exact absurd rfl (S.nofree _ (PySem.mem_of_lookup hy))
  · exact Nat.le_of_lt (x.above y c (PySem.mem_of_lookup h))
  · have hi : i < vs.length := by
      unfold start at h2
      by_cases hi : i < vs.length
      · exact hi
      · rw [List.getElem?_append_right (by simpa using hi)] at h2
        rw [List.getElem?_replicate] at h2
        split at h2 <;> cases h2
    have ha : vs[i]? = some v := by
      unfold start at h2
      rw [List.getElem?_append_left (by simpa using hi), List.getElem?_map] at h2
      cases e : vs[i]? with
      | none => rw [e] at h2; cases h2
      | some a => rw [e] at h2; cases h2; rfl
    obtain ⟨u, hu, rv⟩ := r.get ha
    have hp : ps[i]? = some y := by
      rw [<- S.pre, List.getElem?_take_of_lt (by omega)]; exact h1
    have ndP : ps.Nodup := by rw [<- S.pre]; exact S.nd.sublist (List.take_sublist _ _)
    refine ⟨u, rv, ?_⟩
    rcases S.par y (List.mem_of_getElem? hp) with k | k
    · exact .inl ⟨k, bindL_get ndP hp hu k⟩
    · obtain ⟨c, e⟩ := cell_has (n := s.heap.objs.size + 1) k
      refine .inr ⟨.inl k, c, e, ?_⟩
      have q := x.cell y c e
      rw [bindC_get ndP hp hu (by show scope.names.lookup y ≠ _; rw [k]; decide)] at q
      exact q
  · exact e0.hok.fresh (Nat.le_of_lt (x.above y c (PySem.mem_of_lookup h)))
  · unfold start
    show _ = N.length
    rw [List.length_append, List.length_map, List.length_replicate]
    omega
theorem fn_of {CX : CXT} {P : Program} {w : World} {K : PySem.W.Frag} {mg : Str -> Option Value} {base : Heap} {k : Nat} {f : Addr} {name qual : Str} {params : Arguments} {body : List Stmt} {scope : Scope} {dV kV doc pm cdv ct oc : Value} {an od : Option Addr}
    {osl : Array (Option Value)} {N ps : List Str} {sp : Sp} (lk : K.lookup f = some ⟨oc, od, .func (PySem.W.fnOf name qual params body scope dV kV doc pm an cdv ct), osl⟩) (hcd : PySem.W.codeIn K cdv qual = true) (S : FnScope N ps scope)
    (len : ∀ vs H Q E, sp vs H Q E -> vs.length = ps.length)
    (hbody : ∀ (A : Around) (outer : List Env) (s : Shared) (H : Hp) (vs : List V) (Q : VK) (E : XK), Room k (A.deeper (envOfC qual scope s.heap.objs.size f cdv)) -> sp vs H Q E ->
      ∃ t, PSs (cxOf CX P w K mg base N qual scope f cdv A outer s H E) body t /\ t { nx := fun _ H' => Q .non H', rt := Q } (start N vs) H) :
    FnOk P w K mg base CX (k + 1) f (PySem.W.fnOf name qual params body scope dV kV doc pm an cdv ct) ps sp := by
  refine ⟨len, fun A outer s H args us vs Q E hr e0 hb r hsp => ?_⟩
  have hl := len _ _ _ _ hsp
  have KX : K.In s.heap := e0.mod.kin.keeps fun b o e => (e0.bs b o e).1
  have lim : s.heap.NoLimit := e0.mod.nolimit.keeps fun b o e => (e0.bs b o e).1
  have hkind : ∀ y ∈ ps.zip us, scope.names.lookup y.1 = some .local ∨ (scope.names.lookup y.1 = some .cell /\ ((cellsFrom (s.heap.objs.size + 1) scope.names []).lookup y.1).isSome = true) := fun ⟨n, v⟩ hy => by
    rcases S.par n (List.of_mem_zip hy).1 with q | q
    · exact .inl q
    · exact .inr ⟨q, PySem.W.cellsFrom_some _ _ _ (.inl q)⟩
  refine codeAny_call_function hr.depth (KX _ _ lk) rfl S.co S.gen rfl (PySem.W.codeRec_of KX hcd) (hb _ _ _ _ ?_)
  refine wpAny_newFunctionEnv_cells S.kind hkind fun env he s1 x => ?_
  subst he
  refine ⟨lim.keeps x.toInCall.keep, codeAny_func ?_⟩
  obtain ⟨t, ht, hq⟩ := hbody A outer s H vs Q E (hr.deeper _) hsp
  have I : Inv (cxOf CX P w K mg base N qual scope f cdv A outer s H E) [] (start N vs) H s1 := inv_start S hr.hd e0 hl r x
  refine wpAny_mono (ht [] s1 (start N vs) H _ I hq) (fun fl s' hs => ?_) fun e s' hs => hs
  have fin : ∀ {σ' : St} {H' : Hp} {v : V} {u : Value}, Inv (cxOf CX P w K mg base N qual scope f cdv A outer s H E) [] σ' H' s' -> RelV v u -> Q v H' -> CE outer P w H s Q u s' :=
    fun {σ' H' v u} J rv q => ⟨v, H', J.os, J.bare, J.base, J.hok, rv, q⟩
  cases fl with
  | ret u =>
    obtain ⟨v, σ', H', J, rv, q⟩ := hs
    exact fin J rv q
  | next =>
    obtain ⟨σ', H', J, q⟩ := hs
    exact fin (v := V.non) (u := Value.none) J rfl q
  | brk =>
    obtain ⟨_, _, _, q⟩ := hs
    exact False.elim q
  | cont =>
    obtain ⟨_, _, _, q⟩ := hs
    exact False.elim q
section
variable {X : Cx} {x : Str} {p pos : Pos} {e : Expr} {es : List Expr} {t : TA} {id T : String} {r : List V -> Hp -> VK -> Prop}
def tCB (r : List V -> Hp -> VK -> Prop) (t : TA) : TE := fun σ H Q => t σ H fun vs H1 => r vs H1 Q
theorem pe_callB (hc : CallR X (.builtin id) r) (hg : Gl X x) (hm : X.mg x = none) (hv : bootBuiltins x = some (.builtin id)) (ha : PA X (e :: es) t) (hn : x ≠ "__name__" := by decide) (hdb : (x == ("__debug__" : Str)) = false := by decide)
    (he : starEach (e :: es) X.env = (false, eval e X.env) :: starEach es X.env := by rfl) (hpl : (backTo pos (starEach es X.env)).any (·.1) = false := by rfl) : PE X (.Call (.Name x p) (e :: es) [] pos) (tCB r t) := by
  intro pins s σ H Q I h
  refine wpAny_Call_Name_kw (ld_blt I hg hm hv ?_ hn hdb)
  exact PyProof.Rows.callWith_builtin1 (thn (ha pos pins s σ H _ I h) fun us s1 ⟨vs, H1, I1, r1, q1⟩ => hc pins s1 σ H1 vs us Q I1 r1 q1) he hpl
theorem pe_callTy (hc : CallR X (.type T) r) (hg : Gl X x) (hm : X.mg x = none) (hv : bootBuiltins x = some (.type T)) (ha : PA X (e :: es) t) (hn : x ≠ "__name__" := by decide) (hdb : (x == ("__debug__" : Str)) = false := by decide)
    (he : starEach (e :: es) X.env = (false, eval e X.env) :: starEach es X.env := by rfl) (hpl : (backTo pos (starEach es X.env)).any (·.1) = false := by rfl) : PE X (.Call (.Name x p) (e :: es) [] pos) (tCB r t) := by
  intro pins s σ H Q I h
  refine wpAny_Call_Name_kw (ld_blt I hg hm hv ?_ hn hdb)
  exact PyProof.Rows.callWith_type1 (thn (ha pos pins s σ H _ I h) fun us s1 ⟨vs, H1, I1, r1, q1⟩ => hc pins s1 σ H1 vs us Q I1 r1 q1) he hpl
end
end L2
namespace HT
open PySem PyProof.Rows
section
open PySem.SeqAt
open PySem.AutoSeq1 (wpAny_loadPart')
open PySem.MeetsSeq PySem.MeetsSeq2 PySem.MeetsSeq3
end
section
variable {prog : Program} {w : World} {A : Around} {E : Value -> Shared -> Prop} {s : Shared}
def sIx (n d : Nat) : Option Int -> Nat
  | none => d
  | some v => if v < 0 then (v + (n : Int)).toNat else min v.toNat n
end
end HT
namespace L2
open PySem PySem.Spec PyProof.Rows
abbrev TO := St -> Hp -> (Option Int -> Hp -> Prop) -> Prop
def PO (X : Cx) (e : Option Expr) (t : TO) : Prop :=
  ∀ (pins : List (Addr × Obj)) (s : Shared) (σ : St) (H : Hp) (Q : Option Int -> Hp -> Prop), Inv X pins σ H s -> t σ H Q ->
    wpAny (model X.prog X.w) X.A (evalPart e X.env) (fun u s' => ∃ o H', Inv X pins σ H' s' /\ IsPart u o /\ Q o H') X.xe s
def tNoPart : TO := fun _ H Q => Q none H
def tPart (t : TE) : TO := fun σ H Q => t σ H fun x H1 => ∃ i, x = .int i /\ Q (some i) H1
section
variable {X : Cx} {e : Expr} {te : TE} {lo hi : Option Expr} {tl th : TO} {pos p2 : Pos}
theorem po_none : PO X none tNoPart := by
  intro pins s σ H Q I h
  rw [evalPart_none]
  exact wpAny_pure ⟨none, H, I, .none, h⟩
theorem po_some (h : PE X e te) : PO X (some e) (tPart te) := by
  intro pins s σ H Q I hw
  rw [evalPart_some]
  refine thn (h pins s σ H _ I hw) fun u s1 ⟨x, H1, I1, r1, q1⟩ => ?_
  obtain ⟨i, rfl, q⟩ := q1
  obtain ⟨t, rfl⟩ := r1
  exact ⟨some i, H1, I1, .int i t, q⟩
def SlR (X : Cx) (r : V -> Option Int -> Option Int -> Hp -> VK -> Prop) : Prop :=
  ∀ (pins : List (Addr × Obj)) (s : Shared) (σ : St) (H : Hp) (x : V) (v vl vu : Value) (lo hi : Option Int) (sl : Addr) (Q : VK), Inv X pins σ H s -> RelV x v -> s.heap.IsSliceOf sl vl vu .none -> IsPart vl lo -> IsPart vu hi -> r x lo hi H Q ->
    ∃ T id, typeLookup (.type T) "__getitem__" = pure (some (.builtin id)) /\ s.TypeIs v T /\ wpAny (model X.prog X.w) X.A (getItem v (.ref sl)) (EP X pins σ Q) X.xe s
def tSl (r : V -> Option Int -> Option Int -> Hp -> VK -> Prop) (te : TE) (tl th : TO) : TE := fun σ H Q => te σ H fun x H1 => tl σ H1 fun l H2 => th σ H2 fun u H3 => r x l u H3 Q
theorem pe_slice {r : V -> Option Int -> Option Int -> Hp -> VK -> Prop} (hr : SlR X r) (he : PE X e te) (hl : PO X lo tl) (hu : PO X hi th) : PE X (.Subscript e (.Slice lo hi none p2) pos) (tSl r te tl th) := by
  intro pins s σ H Q I h
  refine Subscript_ (thn (he pins s σ H _ I h) fun v s1 ⟨x, H1, I1, r1, q1⟩ => ?_)
  refine wpAny_Slice (thn (hl pins s1 σ H1 _ I1 q1) fun vl s2 ⟨l, H2, I2, pl, q2⟩ => thn (hu pins s2 σ H2 _ I2 q2) fun vu s3 ⟨u, H3, I3, pu, q3⟩ => ?_)
  rw [evalPart_none]
  refine wpAny_pure ?_
  have I4 : Inv X pins σ H3 { s3 with heap := s3.heap.push { cls := .type "slice", data := .fields #[vl, vu, .none] } } := I3.kept (t' := s3.toks) fun b ob q => Heap.get?_push_of_some _ q
  obtain ⟨T, id, hT, ht, hg⟩ := hr pins { s3 with heap := s3.heap.push { cls := .type "slice", data := .fields #[vl, vu, .none] } } σ H3 x v vl vu l u s3.heap.objs.size Q I4 r1 (Heap.IsSliceOf.new ..) pl pu q3
  show wpAny (model X.prog X.w) X.A (subscriptTail e (.Slice lo hi none p2) v (.ref s3.heap.objs.size)) (EP X pins σ Q) X.xe { s3 with heap := s3.heap.push { cls := .type "slice", data := .fields #[vl, vu, .none] } }
  exact tail_any (ops := [.ref s3.heap.objs.size, v]) ht hT hg (by with_unfolding_all rfl)
def cutV (xs : List V) (lo hi : Option Int) : List V := (xs.drop (HT.sIx xs.length 0 lo)).take (HT.sIx xs.length xs.length hi - HT.sIx xs.length 0 lo)
theorem cutV_length (xs : List V) (lo hi : Option Int) : (cutV xs lo hi).length <= xs.length := by
  unfold cutV
  rw [List.length_take, List.length_drop]
  omega
end
def ixN (n : Nat) (i : Int) : Option Nat := if 0 <= i then (if i < n then some i.toNat else none) else if -(n : Int) <= i then some (i + n).toNat else none
def atI {α : Type} (xs : List α) (i : Int) : Option α := (ixN xs.length i).bind fun j => xs[j]?
theorem ixN_seq {n : Nat} {i : Int} {j : Nat} (h : ixN n i = some j) : seqIndex? i n = some j /\ j < n /\ -(n : Int) <= i /\ i < n := by
  unfold ixN at h
  by_cases h0 : 0 <= i
  · rw [if_pos h0] at h
    by_cases h1 : i < n
    · rw [if_pos h1] at h
      have e : i.toNat = j := Option.some.inj h
      exact ⟨by rw [seqIndex_of h0 h1, e], by omega, by omega, h1⟩
    · rw [if_neg h1] at h; cases h
  · rw [if_neg h0] at h
    by_cases h1 : -(n : Int) <= i
    · rw [if_pos h1] at h
      have e : (i + n).toNat = j := Option.some.inj h
      exact ⟨by rw [seqIndex_neg (by omega) h1, e], by omega, h1, by omega⟩
    · rw [if_neg h1] at h; cases h
theorem atI_get {α : Type} {xs : List α} {i : Int} {v : α} (h : atI xs i = some v) : ∃ j, seqIndex? i xs.length = some j /\ xs[j]? = some v /\ j < xs.length /\ -(xs.length : Int) <= i /\ i < xs.length := by
  unfold atI at h
  cases e : ixN xs.length i with
  | none => rw [e] at h; cases h
  | some j =>
    rw [e] at h
    obtain ⟨h1, h2, h3, h4⟩ := ixN_seq e
    exact ⟨j, h1, h, h2, h3, h4⟩
def PlainIx (b : Expr) : Prop := ∀ o i, subscripted b false o i = operate [o, i] (getItem o i)
def IxR (X : Cx) (r : R2) : Prop :=
  ∀ (value slice : Expr) (pins : List (Addr × Obj)) (s : Shared) (σ : St) (H : Hp) (x y : V) (v u : Value) (Q : VK), Inv X pins σ H s -> RelV x v -> RelV y u -> r x y H Q ->
    subscripted slice false v u = operate [v, u] (getItem v u) -> wpAny (model X.prog X.w) X.A (subscriptTail value slice v u) (EP X pins σ Q) X.xe s
def MtR (X : Cx) (id : String) (r : V -> List V -> Hp -> VK -> Prop) : Prop :=
  ∀ (pins : List (Addr × Obj)) (s : Shared) (σ : St) (H : Hp) (x : V) (xs : List V) (v : Value) (us : List Value) (Q : VK), Inv X pins σ H s -> RelV x v -> Vals xs us -> r x xs H Q ->
    wpAny (model X.prog X.w) X.A (call (.builtin id) (v :: us)) (EP X pins σ Q) X.xe s
section
variable {X : Cx} {a b : Expr} {ta tb : TE} {pos : Pos}
theorem IxR.or {r r' : R2} (h : IxR X r) (h' : IxR X r') : IxR X (fun x y H Q => r x y H Q ∨ r' x y H Q) := by
  intro value slice pins s σ H x y v u Q I rx ry q hs
  rcases q with q | q
  · exact h value slice pins s σ H x y v u Q I rx ry q hs
  · exact h' value slice pins s σ H x y v u Q I rx ry q hs
theorem pe_ix {r : R2} (hr : IxR X r) (ha : PE X a ta) (hb : PE X b tb) (hs : PlainIx b) : PE X (.Subscript a b pos) (tOp r ta tb) := by
  intro pins s σ H Q I h
  exact Subscript_ (binT ha hb I h fun v u s2 x y H2 I2 rx ry q => hr a b pins s2 σ H2 x y v u Q I2 rx ry q (hs _ _))
def rIxL (K : PySem.W.Frag) : R2 := fun x y H Q => ∃ p xs i v, x = .ref p /\ y = .int i /\ SqL K H p xs /\ atI xs i = some v /\ Q v H
def rIxT (K : PySem.W.Frag) : R2 := fun x y H Q => ∃ p xs i v, x = .ref p /\ y = .int i /\ SqT K H p xs /\ atI xs i = some v /\ Q v H
def rIxS : R2 := fun x y H Q => ∃ z i c, x = .str z /\ y = .int i /\ z.length <= sizeLine /\ atI z.cps.toList i = some c /\ Q (.str ⟨#[c]⟩) H
theorem ix_list : IxR X (rIxL X.K) := by
  intro value slice pins s σ H x y v u Q I rx ry h hs
  obtain ⟨p, xs, i, z, rfl, rfl, hq, he, q⟩ := h
  cases rx
  obtain ⟨t, rfl⟩ := ry
  obtain ⟨its, r, pl, hz⟩ := I.list hq
  obtain ⟨j, h1, h2, h3, h4, h5⟩ := atI_get he
  obtain ⟨w, ew, rw'⟩ := r.get h2
  have hl := r.length
  have hn := line63
  have fin : EP X pins σ Q w s := ⟨z, H, I, rw', q⟩
  by_cases h0 : 0 <= i
  · have hj : i.toNat = j := by
      rw [seqIndex_of h0 h5] at h1
      exact Option.some.inj h1
    exact item_listR pl.isList h0 (by omega) (by rw [hj]; simpa using ew) fin hs
  · have hj : (i + (its.toArray.size : Int)).toNat = j := by
      rw [seqIndex_neg (by omega) h4] at h1
      rw [List.size_toArray, <- hl]
      exact Option.some.inj h1
    exact subscriptTail_builtinR (x := w) pl.isList.typeIs slot_list_getitem.lookup
      (wpAny_getItem_list_neg (Q := fun r s' => r = w /\ EP X pins σ Q r s') pl.isList (by omega) (by rw [List.size_toArray] <;> omega) (by omega) (by rw [hj]; simpa using ew) ⟨rfl, fin⟩) hs
theorem ix_tup : IxR X (rIxT X.K) := by
  intro value slice pins s σ H x y v u Q I rx ry h hs
  obtain ⟨p, xs, i, z, rfl, rfl, hq, he, q⟩ := h
  cases rx
  obtain ⟨t, rfl⟩ := ry
  obtain ⟨its, r, pl, hz⟩ := I.tuple hq
  obtain ⟨j, h1, h2, h3, h4, h5⟩ := atI_get he
  obtain ⟨w, ew, rw'⟩ := r.get h2
  have hl := r.length
  have hn := line63
  have fin : EP X pins σ Q w s := ⟨z, H, I, rw', q⟩
  exact subscriptTail_builtinR (x := w) pl.typeIs slot_tuple_getitem.lookup
    (getItem_tuple (j := j) (Q := fun r s' => r = w /\ EP X pins σ Q r s') pl (by omega) (by omega) (by rw [List.size_toArray, <- hl]; exact h1) (by simpa using ew) ⟨rfl, fin⟩) hs
theorem ix_str : IxR X rIxS := by
  intro value slice pins s σ H x y v u Q I rx ry h hs
  obtain ⟨z, i, c, rfl, rfl, hz, he, q⟩ := h
  obtain ⟨t, rfl⟩ := rx
  obtain ⟨t', rfl⟩ := ry
  obtain ⟨j, h1, h2, h3, h4, h5⟩ := atI_get he
  have hl : z.cps.toList.length = z.length := by simp [Str.length]
  rw [hl] at h1 h4 h5
  have hn := line63
  exact tail_any (typeIs_str s z t) slot_str_getitem.lookup (getItem_str (c := c) (by
    have e1 : decide (i < -(2 ^ 63 : Int)) = false := decide_eq_false (by omega)
    have e2 : decide (i ≥ 2 ^ 63) = false := decide_eq_false (by omega)
    rw [e1, e2, Bool.or_false]) (by rw [h1]; simpa using h2) ⟨.str ⟨#[c]⟩, H, I.tok _, ⟨_, rfl⟩, q⟩) hs
def rIx (K : PySem.W.Frag) : R2 := fun x y H Q => rIxL K x y H Q ∨ rIxT K x y H Q ∨ rIxS x y H Q
theorem ix_seq : IxR X (rIx X.K) := ix_list.or (ix_tup.or ix_str)
theorem slice_bounds (lo hi : Option Int) (n : Nat) : (sliceBounds lo hi none n).1 = ((HT.sIx n 0 lo : Nat) : Int) /\ (sliceBounds lo hi none n).2.1 = ((HT.sIx n n hi : Nat) : Int) /\ (sliceBounds lo hi none n).2.2 = 1 := by
  refine ⟨?_, ?_, rfl⟩
  · cases lo with
    | none => simp [sliceBounds, HT.sIx]
    | some i =>
      simp only [sliceBounds, HT.sIx, Option.getD_none, show (1 : Int) > 0 by decide, if_true]
      by_cases h : i < 0
      · simp only [h, if_true] <;> omega
      · simp only [h, if_false] <;> omega
  · cases hi with
    | none => simp [sliceBounds, HT.sIx]
    | some i =>
      simp only [sliceBounds, HT.sIx, Option.getD_none, show (1 : Int) > 0 by decide, if_true]
      by_cases h : i < 0
      · simp only [h, if_true] <;> omega
      · simp only [h, if_false] <;> omega
theorem slicePick_cut (its : List Value) (lo hi : Option Int) : slicePick its.toArray lo hi none = ((its.drop (HT.sIx its.length 0 lo)).take (HT.sIx its.length its.length hi - HT.sIx its.length 0 lo)).toArray := by
  obtain ⟨h1, h2, h3⟩ := slice_bounds lo hi its.toArray.size
  unfold slicePick
  rw [h1, h2, h3]
  simp only [sliceRange_one, pick_run, List.size_toArray] <;> rfl
def rSlL (K : PySem.W.Frag) : V -> Option Int -> Option Int -> Hp -> VK -> Prop := fun x lo hi H Q => ∃ a xs, x = .ref a /\ SqL K H a xs /\ ∀ p, H p = none -> Q (.ref p) (upd H p (.lst (cutV xs lo hi)))
theorem sl_list : SlR X (rSlL X.K) := by
  intro pins s σ H x v vl vu lo hi sl Q I rx hs pl pu h
  obtain ⟨a, xs, rfl, hx, q⟩ := h
  cases rx
  obtain ⟨its, r, ht, hz⟩ := I.list hx
  have hlen := r.length
  refine ⟨"list", _, slot_list_getitem.lookup, ht.isList.typeIs, ?_⟩
  refine wpAny_getItem_list_slice ht.isList hs pl pu .none (by simp) ?_ (by rw [List.size_toArray] <;> omega)
  rw [slicePick_cut, <- hlen]
  refine ⟨.ref s.heap.objs.size, _, I.laid (t' := s.toks) (o := .lst (cutV xs lo hi)) (fun b ob q => Heap.get?_push_of_some _ q) (Nat.le_refl _) ?_, rfl, q _ (I.hok.fresh (Nat.le_refl _))⟩
  exact ⟨Nat.le_trans (cutV_length xs lo hi) hz, _, 0, (r.drop (HT.sIx xs.length 0 lo)).take (HT.sIx xs.length xs.length hi - HT.sIx xs.length 0 lo), Heap.get?_push_size _ rfl⟩
def flatV : V -> Bool
  | .non => true
  | .bl _ => true
  | .int _ => true
  | .str _ => true
  | _ => false
def eqV : V -> V -> Bool
  | .non, .non => true
  | .bl a, .bl b => a == b
  | .bl a, .int b => (if a then 1 else 0) == b
  | .int a, .bl b => a == (if b then 1 else 0)
  | .int a, .int b => a == b
  | .str a, .str b => a == b
  | _, _ => false
theorem eqAt_V {A : Around} {s : Shared} {y x : V} {u v : Value} (ry : RelV y u) (rx : RelV x v) (fy : flatV y = true) (fx : flatV x = true) : SeqAt.EqAt A s u v (eqV y x) := by
  cases y with
  | non =>
    cases ry
    cases x with
    | non => cases rx; exact SeqAt.EqAt.same _
    | bl b => cases rx; exact SeqAt.EqAt.none_bool b
    | int b => obtain ⟨t, rfl⟩ := rx; exact SeqAt.EqAt.none_int b t
    | str b => obtain ⟨t, rfl⟩ := rx; exact SeqAt.EqAt.none_str b t
    | _ => exact absurd (show false = true from fx) Bool.false_ne_true
  | bl a =>
    cases ry
    cases x with
    | non => cases rx; exact SeqAt.EqAt.bool_none a
    | bl b => cases rx; exact SeqAt.EqAt.bool_bool a b
    | int b => obtain ⟨t, rfl⟩ := rx; exact SeqAt.EqAt.bool_int a b t
    | str b => obtain ⟨t, rfl⟩ := rx; exact SeqAt.EqAt.bool_str a b t
    | _ => exact absurd (show false = true from fx) Bool.false_ne_true
  | int a =>
    obtain ⟨t', rfl⟩ := ry
    cases x with
    | non => cases rx; exact SeqAt.EqAt.int_none a t'
    | bl b => cases rx; exact SeqAt.EqAt.int_bool a t' b
    | int b => obtain ⟨t, rfl⟩ := rx; exact SeqAt.EqAt.int_int a t' b t
    | str b => obtain ⟨t, rfl⟩ := rx; exact SeqAt.EqAt.int_str a t' b t
    | _ => exact absurd (show false = true from fx) Bool.false_ne_true
  | str a =>
    obtain ⟨t', rfl⟩ := ry
    cases x with
    | non => cases rx; exact SeqAt.EqAt.str_none a t'
    | bl b => cases rx; exact SeqAt.EqAt.str_bool a t' b
    | int b => obtain ⟨t, rfl⟩ := rx; exact SeqAt.EqAt.str_int a t' b t
    | str b => obtain ⟨t, rfl⟩ := rx; exact SeqAt.EqAt.str_str a t' b t
    | _ => exact absurd (show false = true from fx) Bool.false_ne_true
  | _ => exact absurd (show false = true from fy) Bool.false_ne_true
def eqU (x : V) (u : Value) : Bool := match u with
  | .none => eqV .non x
  | .bool b => eqV (.bl b) x
  | .int i _ => eqV (.int i) x
  | .str z _ => eqV (.str z) x
  | _ => false
theorem eqU_of {x y : V} {u : Value} (r : RelV y u) (f : flatV y = true) : eqU x u = eqV y x := by
  cases y with
  | non => cases r; rfl
  | bl b => cases r; rfl
  | int i => obtain ⟨t, rfl⟩ := r; rfl
  | str z => obtain ⟨t, rfl⟩ := r; rfl
  | _ => exact absurd (show false = true from f) Bool.false_ne_true
theorem any_eqU {x : V} : ∀ {xs : List V} {us : List Value}, Vals xs us -> xs.all flatV = true -> us.any (eqU x) = xs.any fun y => eqV y x
  | _, _, .nil, _ => rfl
  | y :: xs, u :: us, .cons r t, f => by
    rw [List.all_cons, Bool.and_eq_true] at f
    rw [List.any_cons, List.any_cons, eqU_of r f.1, any_eqU t f.2]
theorem mem_eqAt {A : Around} {s : Shared} {x : V} {v : Value} (rx : RelV x v) (fx : flatV x = true) : ∀ {xs : List V} {us : List Value}, Vals xs us -> xs.all flatV = true -> ∀ u ∈ us, SeqAt.EqAt A s u v (eqU x u)
  | _, _, .nil, _ => fun u hu => by cases hu
  | y :: xs, u :: us, .cons r t, f => fun u' hu => by
    rw [List.all_cons, Bool.and_eq_true] at f
    rcases List.mem_cons.mp hu with rfl | hu
    · rw [eqU_of r f.1]; exact eqAt_V r rx f.1 fx
    · exact mem_eqAt rx fx t f.2 u' hu
def inV (x : V) (xs : List V) : Bool := xs.any fun y => eqV y x
def rIn (K : PySem.W.Frag) (neg : Bool) : R2 := fun x y H Q => ∃ p xs, y = .ref p /\ (SqL K H p xs ∨ SqT K H p xs) /\ flatV x = true /\ xs.all flatV = true /\ Q (.bl (if neg then !inV x xs else inV x xs)) H
theorem op_in_seq : OpR X (compareOp .In) (rIn X.K false) := by
  intro pins s σ H x y v u Q I rx ry h
  obtain ⟨p, xs, rfl, hq, fx, fs, q⟩ := h
  cases ry
  rcases hq with hq | hq
  · obtain ⟨its, r, pl, hz⟩ := I.list hq
    refine SeqAt.in_listAt (eqU x) pl.isList (fun w hw => mem_eqAt rx fx r fs w (by simpa using hw)) ⟨.bl _, H, I, rfl, ?_⟩
    rw [show its.toArray.any (eqU x) = its.any (eqU x) by simp, any_eqU r fs]
    exact q
  · obtain ⟨its, r, pl, hz⟩ := I.tuple hq
    refine SeqAt.in_tupleAt (eqU x) pl (fun w hw => mem_eqAt rx fx r fs w (by simpa using hw)) ⟨.bl _, H, I, rfl, ?_⟩
    rw [show its.toArray.any (eqU x) = its.any (eqU x) by simp, any_eqU r fs]
    exact q
def tyV (K : PySem.W.Frag) (T : String) (x : V) (H : Hp) : Prop := match x with
  | .str _ => T = "str"
  | .int _ => T = "int"
  | .ref p => (T = "list" /\ ∃ xs, SqL K H p xs) ∨ (T = "tuple" /\ ∃ o, K.lookup p = some o /\ o.cls = .type "tuple" /\ o.dict = none) ∨
      (T = "dict" /\ ((∃ kvs, H p = some (.dK kvs)) ∨ ∃ kvs, H p = some (.dT kvs))) ∨ (T = "set" /\ ∃ S n, H p = some (.set S n))
  | _ => False
theorem tyV_is {pins : List (Addr × Obj)} {σ : St} {H : Hp} {s : Shared} {T : String} {x : V} {v : Value} (I : Inv X pins σ H s) (r : RelV x v) (ty : tyV X.K T x H) :
    s.TypeIs v T /\ ∀ a, v = .ref a -> ∃ ob, s.heap.get? a = some ob /\ ob.dict = none := by
  cases x with
  | str z =>
    obtain ⟨t, rfl⟩ := r
    cases (show T = "str" from ty)
    exact ⟨typeIs_str s z t, fun _ e => nomatch e⟩
  | int i =>
    obtain ⟨t, rfl⟩ := r
    cases (show T = "int" from ty)
    exact ⟨typeIs_int s i t, fun _ e => nomatch e⟩
  | ref p =>
    cases r
    rcases ty with ⟨rfl, xs, hq⟩ | ⟨rfl, o, hk, hc, hd⟩ | ⟨rfl, hk⟩ | ⟨rfl, S, n, hk⟩
    · obtain ⟨its, _, pl, _⟩ := I.list hq
      refine ⟨pl.isList.typeIs, fun a e => ?_⟩
      cases e
      obtain ⟨o, n, e, c, hd, _⟩ := pl
      exact ⟨o, e, hd⟩
    · refine ⟨⟨o, I.kIn p o hk, hc⟩, fun a e => ?_⟩
      cases e
      exact ⟨o, I.kIn _ o hk, hd⟩
    · have z : ∃ o, s.heap.get? p = some o /\ o.ExactDict := by
        rcases hk with ⟨kvs, hk⟩ | ⟨kvs, hk⟩
        · obtain ⟨_, _, _, _, o, _, _, e, ex, _⟩ := I.hok p _ hk
          exact ⟨o, e, ex⟩
        · obtain ⟨_, _, _, _, o, _, _, e, ex, _⟩ := I.hok p _ hk
          exact ⟨o, e, ex⟩
      obtain ⟨o, e, ex⟩ := z
      refine ⟨⟨o, e, ex.1⟩, fun a e2 => ?_⟩
      cases e2
      exact ⟨o, e, ex.2.1⟩
    · obtain ⟨o, _, _, _, e, ex, _⟩ := I.hok p _ hk
      refine ⟨⟨o, e, ex.1⟩, fun a e2 => ?_⟩
      cases e2
      exact ⟨o, e, ex.2.1⟩
  | _ => exact False.elim ty
def tBM (K : PySem.W.Frag) (T : String) (r : V -> List V -> Hp -> VK -> Prop) (to : TE) (t : TA) : TE := fun σ H Q => to σ H fun x H1 => tyV K T x H1 /\ t σ H1 fun xs H2 => r x xs H2 Q
variable {o e : Expr} {es : List Expr} {to : TE} {t : TA} {name : Str} {apos cpos : Pos} {T id : String} {r : V -> List V -> Hp -> VK -> Prop}
theorem pe_bm (pa : PlainAttrs T) (slot : Slot T name id) (hty : typeOf (.builtin id) = pure (.type "method_descriptor")) (hm : MtR X id r) (ho : PE X o to) (ha : PA X (e :: es) t)
    (hbase : attributeBase o name X.env (eval o X.env) = eval o X.env := by rfl)
    (hfew : ((backTo cpos (starEach (e :: es) X.env)).all (fun x => !x.1) && (backToKw cpos (keywordEach [] X.env)).all (fun x => x.1.isSome)
      && decide ((e :: es).length + ([] : List Keyword).length + (if ([] : List Keyword).isEmpty then 0 else 1) < 30)) = true := by rfl)
    (hline : (apos.endLine == cpos.line) = true := by rfl) (hs : starEach (e :: es) X.env = (false, eval e X.env) :: starEach es X.env := by rfl) (hplain : (backTo cpos (starEach es X.env)).any (·.1) = false := by rfl) :
    PE X (.Call (.Attribute o name apos) (e :: es) [] cpos) (tBM X.K T r to t) := by
  intro pins s σ H Q I h
  refine wpAny_Call_method_late hbase hfew hline rfl (thn (ho pins s σ H _ I h) fun v s1 ⟨x, H1, I1, r1, ty, q1⟩ => ?_)
  obtain ⟨h1, h2⟩ := tyV_is I1 r1 ty
  refine ⟨T, id, pa, slot, hty, h1, h2, ?_⟩
  have hA := ha cpos pins s1 σ H1 _ I1 q1
  rw [hs] at hA ⊢
  refine Calls.callWith_builtin (by show (false || (backTo cpos (starEach es X.env)).any (·.1)) = false; rw [hplain] <;> rfl) (Calls.evalArgs_plain ?_)
  exact thn hA fun us s2 ⟨vs, H2, I2, r2, q2⟩ => hm pins s2 σ H2 x vs v us Q I2 r1 r2 q2
/- xs.append(e), list.index on a module's tuple .. are MtR facts of 06m -/
end
def MtM (X : Cx) (id : String) (r : V -> List V -> Hp -> VK -> Prop) : Prop :=
  ∀ (pins : List (Addr × Obj)) (s : Shared) (σ : St) (H : Hp) (x : V) (xs : List V) (v : Value) (us : List Value) (Q : VK), Inv X pins σ H s -> RelV x v -> Vals xs us -> r x xs H Q ->
    wpAny (model X.prog X.w) X.A (call (.builtin id) (v :: us)) (EP X pins σ Q) X.xe s
theorem Vals.one : ∀ {x : V} {us : List Value}, Vals [x] us -> ∃ u, us = [u] /\ RelV x u
  | _, _, .cons r .nil => ⟨_, rfl, r⟩
section
variable {X : Cx} {pins : List (Addr × Obj)} {σ : St} {H : Hp} {s : Shared} {l b : Addr} {xs ys zs : List V}
theorem Inv.lset {its its' : List Value} {n : Nat} {f : Array Value -> Array Value} {t' : Nat} (I : Inv X pins σ H s) (hH : H l = some (.lst xs))
    (e : s.heap.get? l = some { cls := .type "list", data := .seq its.toArray n }) (hf : f its.toArray = its'.toArray) (hv : Vals ys its') (hz : ys.length <= sizeLine) :
    Inv X pins σ (upd H l (.lst ys)) { s with heap := s.heap.update l (Obj.mapSeq f), toks := t' } := by
  have q := PySem.IsL.update e f
  rw [hf] at q
  refine I.write (x := l) (e := l) (by rw [hH]; exact trivial) (.inl rfl) (fun b' u hb hu => (Heap.get?_update_other s.heap (Obj.mapSeq f) (Ne.symm hb)).trans hu) ⟨_, q⟩ ?_
  exact ⟨hz, its', _, hv, q⟩
theorem Inv.lnew {its : List Value} {t' : Nat} (I : Inv X pins σ H s) (hv : Vals ys its) (hz : ys.length <= sizeLine) :
    Inv X pins σ (upd H s.heap.objs.size (.lst ys)) { s with heap := s.heap.push { cls := .type "list", data := .seq its.toArray }, toks := t' } :=
  I.laid (fun _ _ q => Heap.get?_push_of_some _ q) (Nat.le_refl _) ⟨hz, its, 0, hv, Heap.get?_push_size _ rfl⟩
theorem Inv.fresh (I : Inv X pins σ H s) : H s.heap.objs.size = none := I.hok.fresh (Nat.le_refl _)
theorem Inv.lstM (I : Inv X pins σ H s) (hH : H l = some (.lst xs)) : xs.length <= sizeLine /\ ∃ (its : List Value) (n : Nat), Vals xs its /\ xs.length = its.length /\ s.heap.get? l = some { cls := .type "list", data := .seq its.toArray n } := by
  obtain ⟨z, its, n, r, e⟩ := I.hok l _ hH
  exact ⟨z, its, n, r, r.length, e⟩
end
section
variable {X : Cx}
def rAppend : V -> List V -> Hp -> VK -> Prop := fun x vs H Q => ∃ l xs y, x = .ref l /\ vs = [y] /\ H l = some (.lst xs) /\ xs.length < sizeLine /\ Q .non (upd H l (.lst (xs ++ [y])))
theorem mt_append : MtM X "list.append" rAppend := by
  intro pins s σ H x vs v us Q I rx rv h
  obtain ⟨l, xs, y, rfl, rfl, hH, hz, q⟩ := h
  cases rx
  obtain ⟨u, rfl, ru⟩ := rv.one
  obtain ⟨z, its, n, r, hl, e⟩ := I.lstM hH
  refine call_meets F.slot_list_append ⟨_, e, rfl⟩ F.entry_list_append (F.args_list_append_2 _ _) (PySem.list_append l its.toArray n u (by rw [List.size_toArray]; omega)) ⟨e, ?_⟩
  refine ⟨.non, _, I.lset (its' := its ++ [u]) hH e (by simp) (r.append (.cons ru .nil)) ?_, rfl, q⟩
  rw [List.length_append, List.length_singleton]
  omega
end
section
variable {prog : Program} {w : World} {A : Around} {E : Value -> Shared -> Prop} {s : Shared}
end
section
variable {X : Cx}
end
end L2
namespace Att
open PySem PySem.W PySem.Calls PyProof.Rows
theorem ints_of_wellAll {P : Params} {h : Heap} : ∀ (ns : List Int) (vs : List Value), WellAll P h vs (ns.map WData.int) -> IntsAre vs ns := by
  intro ns
  induction ns with
  | nil =>
    intro vs w
    rw [List.map_nil] at w
    cases w
    exact .nil
  | cons n ns ih =>
    intro vs w
    rw [List.map_cons] at w
    cases w with
    | cons a b =>
      cases a
      exact .cons _ _ (ih _ b)
theorem script_of {l : OpenLaw} {n : Nat} (hn : l.most = some n) {P : Params} {h : Heap} {args : List WData} {vals : List Value}
    (hpre : l.row.toRowW.claim.pre args = true) (hwl : WellAll P h vals args) :
    ∃ a vs ns, vals = [Value.ref a] /\ args = [WData.list (ns.map WData.int)] /\ h.get? a = some { cls := .type "list", data := .seq vs.toArray } /\ IntsAre vs ns /\ ns.length <= n := by
  have hsh : WShape.hasAll [] args [.list .int] = true := (pre_splitW hpre).1
  have hc : l.pre.holds [] { args := args } = true := (pre_splitW hpre).2
  obtain ⟨d, r, rfl, h1, h2⟩ := hasAllW_cons hsh
  obtain rfl := hasAllW_nil h2
  obtain ⟨xs, rfl, h3⟩ := hasW_list h1
  obtain ⟨ns, rfl⟩ := items_int h3
  have hlen : ns.length <= n := by
    unfold OpenLaw.pre at hc
    have h4 : (WTm.not (.lt (.lit (.int (n : Int))) (.len (.arg 0)))).holds [] { args := [.list (ns.map .int)] } = true := by
      have h4 := (holds_andW hc).1
      rw [hn] at h4
      exact h4
    have h5 := condW_of h4 (w_not (w_lt w_lit (w_len_list (w_arg rfl))))
    rw [List.length_map] at h5
    refine Nat.le_of_not_lt fun q => ?_
    have q' : (n : Int) < ((ns.length : Nat) : Int) := by omega
    first
      | (rw [decide_eq_true q'] at h5; exact absurd h5 (by decide))
      | (simp at h5; omega)
  cases hwl with
  | cons w1 w2 =>
    cases w2
    cases w1 with
    | list ho hall => exact ⟨_, _, ns, rfl, rfl, ho, ints_of_wellAll ns _ hall, hlen⟩
theorem post_true (l : OpenLaw) (args : List WData) : l.row.toRowW.claim.post args (.bool true) args = true :=
  postW_of (r := l.row.toRowW) (X := (true == true))
    (show WShape.has [] (.bool true) .bool = true by first | rfl | decide | simp [WShape.has, WShape.arms, WShape.armsAll])
    (show (WTm.eq .res (.lit (.bool true))).value [] { args := args, res := some (.bool true), after := args } = some (.bool (true == true)) from w_eq_bool (w_res rfl) w_lit) rfl
theorem attach_call {l : OpenLaw} {n : Nat} {q : Program} {loose : List Str} {XP : (Str -> Option Value) -> Heap -> Prop} {YP : World -> Heap -> Prop} {d : DefRec}
    (hn : l.most = some n) (hdf : d.params.defaults = [])
    (call : ∀ (w : World) (s₀ s₁ : Shared) (mg mb : Str -> Option Value) (fa : Addr) (o : Obj) (pm cd doc : Value) (a : Addr) (vs : List Value) (ns : List Int),
      Ground q loose [] XP w s₀ mg mb s₁.heap -> YP w s₁.heap ->
      s₁.heap.get? fa = some o -> o.data = .func (docDef d.name d.params d.body d.scope pm cd doc) -> s₁.heap.CodeRec cd d.name -> mg d.name = some (.ref fa) ->
      s₁.heap.get? a = some { cls := .type "list", data := .seq vs.toArray } -> IntsAre vs ns -> ns.length <= n -> s₁.gens = #[] ->
      codeAny (model l.prog w) callerA (.call (.ref fa) ⟨[.ref a], []⟩) (fun r s' => r = .ok (.ret (.bool true)) /\ OldK s₁.heap s'.heap /\ s'.os = s₁.os /\ AllBare s'.gens) s₁) :
    WalkO q loose XP YP l.row.toRowW d [] (fun f vs => PySem.call f vs) := by
  intro w s₀ s₁ mg mb G Y fa o pm cd doc dV kV ho hd hcd hD hmg hg args vals as hpre hlay hrd hwl hlo
  obtain rfl : dV = .none := Dflts.none hD hdf
  obtain rfl : kV = .none := Dflts.noKw hD
  obtain ⟨a, vs, ns, rfl, rfl, hobj, hints, hlen⟩ := script_of hn hpre hwl
  refine enter_call (codeAny_mono (call w s₀ s₁ mg mb fa o pm cd doc a vs ns G Y ho (fd_plain hd) hcd hmg hobj hints hlen hg) fun r s' hq => ?_)
  obtain ⟨rfl, h2, h3, h4⟩ := hq
  exact ⟨.inl ⟨.bool true, .bool true, [], rfl, fun _ => rfl, .bool true, post_true l _, fun _ => ⟨List.Pairwise.nil, fun _ hm => (nomatch hm)⟩⟩, h2, h3, h4⟩
section
variable {prog : Program} {w : World} {A : Around} {E : Value -> Shared -> Prop} {s : Shared} {K : Frag}
def ledger (h : Heap) (L d : Addr) : List (Addr × Obj) := (List.range h.objs.size).filterMap fun a => if a = L ∨ a = d then none else (h.get? a).map fun o => (a, o)
end
end Att
namespace L2
open PySem PySem.Spec PyProof.Rows
theorem vals_ints : ∀ {vs : List Value} {ns : List Int}, IntsAre vs ns -> Vals (ns.map V.int) vs
  | _, _, .nil => .nil
  | _, _, .cons n t h => .cons ⟨t, rfl⟩ (vals_ints h)
def Only (H : Hp) : Prop := ∀ b, H b = none ∨ ∃ o xs, H b = some (.frz o (.lst xs))
theorem law_call {P : Program} {w : World} {K : PySem.W.Frag} {mg mb : Str -> Option Value} {CX : CXT} {k : Nat} {fa a : Addr} {fd : FuncData} {x : Str} {sp : Sp} {s₁ : Shared} {vs : List Value} {ns : List Int}
    (KX : K.In s₁.heap) (hns : s₁.heap.Ns mainGlobals mg) (hb : s₁.heap.Ns builtinsNs mb) (hbb : ∀ x : Str, x ≠ "__name__" -> mb x = bootBuiltins x) (hlim : s₁.heap.NoLimit) (hg : s₁.gens = #[])
    (ha : s₁.heap.get? a = some { cls := .type "list", data := .seq vs.toArray }) (hi : IntsAre vs ns) (hl : ns.length <= sizeLine) (hr : Room k callerA)
    (F : ∀ base : Heap, K.In base -> base.Ns mainGlobals mg -> FnOk P w K mg base CX k fa fd [x] sp) (hbind : ∀ (s : Shared) (u : Value), BindsTo s fd ⟨[u], []⟩ [(x, u)])
    (hsp : ∀ H : Hp, Only H -> SqL K H a (ns.map V.int) -> sp [.ref a] H (fun v _ => v = .bl true) fun _ _ _ => False)
    (hCX : ∀ H e s', CX [] H s₁ (fun _ _ _ => False) e s' -> False) :
    codeAny (model P w) callerA (.call (.ref fa) ⟨[.ref a], []⟩) (fun r s' => r = .ok (.ret (.bool true)) /\ OldK s₁.heap s'.heap /\ s'.os = s₁.os /\ AllBare s'.gens) s₁ := by
  have rv := vals_ints hi
  have lenV := hi.length
  have core : ∀ H : Hp, Only H -> SqL K H a (ns.map V.int) -> HOk P w H s₁.heap -> (∀ b, H b ≠ none -> b = a) -> (H a ≠ none -> K.lookup a = none) ->
      codeAny (model P w) callerA (.call (.ref fa) ⟨[.ref a], []⟩) (fun r s' => r = .ok (.ret (.bool true)) /\ OldK s₁.heap s'.heap /\ s'.os = s₁.os /\ AllBare s'.gens) s₁ := by
    intro H hO hS hok hA hK
    have base_of : ∀ {b : Addr} {o : Obj}, s₁.heap.get? b = some o -> H b = none -> (hidT s₁.heap H).get? b = some o := fun e n => hidT_get e n
    have noA : ∀ {b : Addr} {o : Obj} {es : Array DictEntry} {ep : Nat}, s₁.heap.get? b = some o -> o.data = .dict es ep -> H b = none := fun {b o es ep} e d => by
      cases q : H b with
      | none => rfl
      | some u =>
        have e' : b = a := hA b (by rw [q]; simp)
        subst e'
        rw [ha] at e; cases e
        have d' : Data.seq vs.toArray _ = Data.dict es ep := d
        cases d'
    have nsK : ∀ {b : Addr} {m : Str -> Option Value}, s₁.heap.Ns b m -> (hidT s₁.heap H).Ns b m := fun {b m} ⟨o, es, ep, e, d, r⟩ => ⟨o, es, ep, base_of e (noA e d), d, r⟩
    have hKb : K.In (hidT s₁.heap H) := fun b o e => base_of (KX b o e) (by
      cases q : H b with
      | none => rfl
      | some u =>
        have e' : b = a := hA b (by rw [q]; simp)
        subst e'
        rw [hK (by rw [q]; simp)] at e; cases e)
    have hM : Mod K mg (hidT s₁.heap H) := ⟨hKb, nsK hns, ⟨mb, nsK hb, hbb⟩, let ⟨mc, h1, h2⟩ := hlim; ⟨mc, nsK h1, h2⟩⟩
    have e0 : Env0 P w K mg (hidT s₁.heap H) callerA [] s₁ H := ⟨rfl, hM, fun b o e => of_hidT e, Nat.le_of_eq (hidT_size _ _), trivial, fun b hb => absurd (show b ∈ ([] : List Addr) from hb) (by simp), hok, .of_eq hg⟩
    refine codeAny_mono ((F _ hKb (nsK hns)).run callerA [] s₁ H ⟨[.ref a], []⟩ [.ref a] [.ref a] _ _ hr e0 (hbind s₁ (.ref a)) (.cons rfl .nil) (hsp H hO hS)) fun r s' h => ?_
    cases r with
    | error e => exact (hCX H e s' h).elim
    | ok fl =>
      cases fl with
      | next => exact False.elim h
      | brk => exact False.elim h
      | cont => exact False.elim h
      | ret u =>
        obtain ⟨v, H', os, bare, un, hok', r', q⟩ := h
        have q' : v = .bl true := q
        subst q'
        obtain rfl : u = Value.bool true := r'
        refine ⟨rfl, OldK.of_keep fun b o e => ?_, os, bare⟩
        cases q : H b with
        | none => exact un.keep b o e q (by intro z; exact absurd (show b ∈ ([] : List Addr) from z) (by simp)) (by simp)
        | some u =>
          rcases hO b with z | ⟨ob, xs, z⟩
          · rw [q] at z; cases z
          · have z2 := un.frzs b ob _ z
            obtain ⟨e1, _⟩ := hok b _ z
            obtain ⟨e2, _⟩ := hok' b _ z2
            rw [e] at e1; cases e1
            exact e2
  cases hk : K.lookup a with
  | some o =>
    have e := KX a o hk
    rw [ha] at e
    cases e
    refine core (fun _ => none) (fun _ => .inl rfl) (.inr ⟨_, vs.toArray, _, hk, rfl, rfl, rfl, by rw [List.size_toArray, lenV]; exact hl, by simpa using rv⟩) (fun b u z => by have z' : (none : Option HO) = some u := z; cases z') (fun b z => absurd rfl z) fun z => absurd rfl z
  | none =>
    refine core (fun b => if b = a then some (.frz { cls := .type "list", data := .seq vs.toArray } (.lst (ns.map V.int))) else none) (fun b => ?_) (.inl (.inr ⟨{ cls := .type "list", data := .seq vs.toArray }, if_pos rfl⟩)) (fun b u z => ?_) (fun b z => ?_) fun _ => hk
    · by_cases hb : b = a
      · exact .inr ⟨_, _, if_pos hb⟩
      · exact .inl (if_neg hb)
    · by_cases hb : b = a
      · have z' := (if_pos hb).symm.trans z
        cases z'
        subst hb
        exact ⟨ha, by rw [List.length_map]; exact hl, vs, _, rv, ha⟩
      · have z' := (if_neg hb).symm.trans z
        cases z'
    · by_cases hb : b = a
      · exact hb
      · exact absurd (if_neg hb) z
abbrev KOf {K : PySem.W.Frag} {h : Heap} (_ : K.In h) : PySem.W.Frag := K
theorem walk_of {l : PySem.W.OpenLaw} {n k : Nat} {q : Program} {loose : List Str} {XP : (Str -> Option Value) -> Heap -> Prop} {YP : World -> Heap -> Prop} {d : DefRec} {K : Params -> PySem.W.Frag} {CX : World -> CXT} {sp : World -> Sp} {x : Str}
    (hn : l.most = some n) (hn2 : n <= sizeLine) (hdf : d.params.defaults = []) (hr : Room k callerA)
    (hY : ∀ (w : World) (h : Heap), YP w h -> (K w.params).In h)
    (F : ∀ (w : World) (mg : Str -> Option Value) (fa : Addr) (h : Heap), (K w.params).In h -> h.Ns mainGlobals mg -> mg d.name = some (.ref fa) ->
      ∃ fd : FuncData, (∀ (s : Shared) (u : Value), BindsTo s fd ⟨[u], []⟩ [(x, u)]) /\
        ∀ base : Heap, (K w.params).In base -> base.Ns mainGlobals mg -> FnOk l.prog w (K w.params) mg base (CX w) k fa fd [x] (sp w))
    (hsp : ∀ (w : World) (H : Hp) (a : Addr) (ns : List Int), ns.length <= n -> Only H -> SqL (K w.params) H a (ns.map V.int) -> sp w [.ref a] H (fun v _ => v = .bl true) fun _ _ _ => False)
    (hCX : ∀ (w : World) (H : Hp) (s : Shared) (e : Value) (s' : Shared), CX w [] H s (fun _ _ _ => False) e s' -> False) :
    PySem.W.WalkO q loose XP YP l.row.toRowW d [] (fun f vs => PySem.call f vs) := by
  refine Att.attach_call hn hdf fun w s₀ s₁ mg mb fa o pm cd doc a vs ns G Y ho hd hcd hmg hobj hints hlen hg => ?_
  have KX := hY w _ Y
  obtain ⟨fd, hb, hF⟩ := F w mg fa _ KX G.T.g hmg
  exact law_call KX G.T.g G.T.b G.T.builtins G.T.nolimit hg hobj hints (Nat.le_trans hlen hn2) hr hF hb (fun H hO hS => hsp w H a ns hlen hO hS) fun H e s' => hCX w H s₁ e s'
end L2
/- THE LAST THEOREM (shape; LID, My.* are yours):
   My.Adr: a structure of the addresses that your layer names (classes, functions); My.Txt K t: a structure (Prop) of the equations over K;
   My.txt_mk : {K} {implicit addresses ..} (e1 : nsIn K mainGlobals "law" = some (some (.ref f))) (e2 : K.lookup f = some ⟨oc, od, .func (fnOf "law" "law" params body scope dV kV doc pm an cdv ct), sl⟩) (e3 : codeIn K cdv "law" = true) .. : ∃ t, My.Txt K t
set_option maxRecDepth 100000 in
set_option maxHeartbeats 0 in
theorem PySem.Challenge.cw_LID_holds : PySem.Challenge.rw_LID.Holds := by
  w_on; o_law; k_head; (case hw => w_witness2)
  k_fill
  refine L2.walk_of (l := PySem.Challenge.rw_LID) (n := 63) (k := 40) (x := "script") (CX := fun w => ..) (sp := fun _ => My.sp_law) rfl (by decide) rfl ⟨rfl, by decide, by decide⟩ (fun w h Y => PySem.W.kIn_of Y) ?F ?S ?C
  case F =>
    intro w mg fa h KX G hmg
    have T : ∃ t, My.Txt (L2.KOf KX) t := by
      dsimp only [L2.KOf]                          -- K must stand as «<heap const> w.params» for k_is
      refine' My.txt_mk ?e1 ?e2 ?e3 ..
      (case e1 => PySem.W.k_is)                    -- in the order: a name -> its address -> its object -> its parts
      (case e2 => PySem.W.k_is)
      ..
    obtain ⟨t, T⟩ := T
    have e0 := hmg.symm.trans (PySem.W.mg_of KX G T.law)
    cases e0                                       -- fa is the law's own address
    exact ⟨_, fun s u => .of_eq rfl, fun base kb nb => My.law_fn T kb nb⟩     -- if «.of_eq rfl» comes too early: refine' ⟨_, ?b, fun base kb nb => My.law_fn T kb nb⟩; exact fun s u => .of_eq rfl
  case S => exact fun w H a ns hl hO hS => ..
  case C => exact ..
(the tactic k_is has no namespace: write k_is) -/
namespace L2
open PySem PySem.Spec PyProof.Rows
def defArgs (s : Stmt) : Arguments := match s with
  | .FunctionDef _ a _ _ _ _ _ _ _ _ => a
  | _ => { posonlyargs := [], args := [], vararg := none, kwonlyargs := [], kw_defaults := [], kwarg := none, defaults := [] }
def defBody (s : Stmt) : List Stmt := match s with
  | .FunctionDef _ _ b _ _ _ _ _ _ _ => b
  | _ => []
def defScope (s : Stmt) : Scope := match s with
  | .FunctionDef _ _ _ _ _ _ sc _ _ _ => sc
  | _ => { kind := .function, names := [], isGenerator := false, isCoroutine := false }
abbrev CX0 : CXT := fun _ _ _ _ _ _ => False
abbrev E0 : XK := fun _ _ _ => False
theorem pass0 {X : Cx} : Passes CX0 X E0 := fun _ _ _ _ _ _ _ h => h.elim
structure Fun (K : PySem.W.Frag) (x qual : Str) (st : Stmt) (f : Addr) (fd : FuncData) : Prop where
  ex : ∃ (oc : Value) (od : Option Addr) (kV doc pm : Value) (an : Option Addr) (cdv ct : Value) (osl : Array (Option Value)),
    fd = PySem.W.fnOf x qual (defArgs st) (defBody st) (defScope st) .none kV doc pm an cdv ct /\ K.lookup f = some ⟨oc, od, .func fd, osl⟩ /\ PySem.W.codeIn K cdv qual = true
  kp : PySem.W.keepIn K (.ref f) = true
section
variable {P : Program} {w : World} {K : PySem.W.Frag} {mg : Str -> Option Value} {base : Heap}
theorem Fun.ok {x qual : Str} {st : Stmt} {f : Addr} {fd : FuncData} {N ps : List Str} {k : Nat} {sp : Sp} (F : Fun K x qual st f fd) (S : FnScope N ps (defScope st)) (len : ∀ vs H Q E, sp vs H Q E -> vs.length = ps.length)
    (hbody : ∀ (cdv : Value) (A : Around) (outer : List Env) (s : Shared) (H : Hp) (vs : List V) (Q : VK) (E : XK), Room k (A.deeper (envOfC qual (defScope st) s.heap.objs.size f cdv)) -> sp vs H Q E ->
      ∃ t, PSs (cxOf CX0 P w K mg base N qual (defScope st) f cdv A outer s H E).nox (defBody st) t /\ t { nx := fun _ H' => Q .non H', rt := Q } (start N vs) H) : FnOk P w K mg base CX0 (k + 1) f fd ps sp := by
  obtain ⟨oc, od, kV, doc, pm, an, cdv, ct, osl, rfl, lk, hcd⟩ := F.ex
  refine fn_of lk hcd S len fun A outer s H vs Q E hr hsp => ?_
  obtain ⟨t, h, q⟩ := hbody cdv A outer s H vs Q E hr hsp
  exact ⟨t, h.nox, q⟩
theorem Fun.binds {x qual : Str} {st : Stmt} {f : Addr} {fd : FuncData} {ps : List Str} (F : Fun K x qual st f fd)
    (h : ∀ (kV doc pm : Value) (an : Option Addr) (cdv ct : Value) (us : List Value), us.length = ps.length -> bindArgs (PySem.W.fnOf x qual (defArgs st) (defBody st) (defScope st) .none kV doc pm an cdv ct) ⟨us, []⟩ = pure (ps.zip us)) : Binds K fd ps [] := by
  obtain ⟨oc, od, kV, doc, pm, an, cdv, ct, osl, rfl, lk, hcd⟩ := F.ex
  exact .all (h kV doc pm an cdv ct)
theorem fun_mk {x qual : Str} {st : Stmt} {f : Addr} {oc : Value} {od an : Option Addr} {osl : Array (Option Value)} {kV doc pm cdv ct : Value} (l : K.lookup f = some ⟨oc, od, .func (PySem.W.fnOf x qual (defArgs st) (defBody st) (defScope st) .none kV doc pm an cdv ct), osl⟩)
    (c : PySem.W.codeIn K cdv qual = true) (k : PySem.W.keepIn K (.ref f) = true) : Fun K x qual st f (PySem.W.fnOf x qual (defArgs st) (defBody st) (defScope st) .none kV doc pm an cdv ct) := ⟨⟨oc, od, kV, doc, pm, an, cdv, ct, osl, rfl, l, c⟩, k⟩
end
section
variable {X : Cx}
theorem pv (i : Nat) {x : Str} {pos : Pos} (hN : X.N[i]? = some x := by rfl) (hv : Vis X.env.scope x := by first | exact Or.inl rfl | exact Or.inr (Or.inl rfl) | exact Or.inr (Or.inr rfl)) (hd : (x == ("__debug__" : Str)) = false := by decide)
    (hcd : (x == ("__classdict__" : Str)) = false := by decide) : PE X (.Name x pos) (tVar i) := pe_var hN hv hd hcd
end
theorem iteF {A B : Prop} (h : B) : if false = true then A else B := by
  rw [if_neg Bool.false_ne_true]
  exact h
theorem iteT {A B : Prop} (h : A) : if true = true then A else B := by
  rw [if_pos rfl]
  exact h
def Same (H H' : Hp) : Prop := ∀ b o, H b = some o -> H' b = some o
theorem Same.refl (H : Hp) : Same H H := fun _ _ h => h
theorem Same.trans {H H1 H2 : Hp} (a : Same H H1) (b : Same H1 H2) : Same H H2 := fun c o h => b c o (a c o h)
theorem Same.free {H H' : Hp} (e : Same H H') {l : Addr} (h : H' l = Option.none) : H l = Option.none := by
  cases q : H l with
  | none => rfl
  | some o =>
    rw [e l o q] at h
    cases h
theorem Same.seq {K : PySem.W.Frag} {H H' : Hp} {a : Addr} {xs : List V} (e : Same H H') (h : SqL K H a xs) : SqL K H' a xs := by
  rcases h with (h | ⟨o, h⟩) | h
  · exact .inl (.inl (e _ _ h))
  · exact .inl (.inr ⟨o, e _ _ h⟩)
  · exact .inr h
end L2
namespace L3
open PySem PySem.Spec L2
open PyProof.Rows hiding St
section
variable {X : Cx} {pins : List (Addr × Obj)} {σ : St} {H H' : Hp} {s : Shared} {h' : Heap}
theorem turnedN {ch : List Addr} {t' : Nat} (I : Inv X pins σ H s) (k : ∀ b o, b ∉ ch -> s.heap.get? b = some o -> h'.get? b = some o) (hf : ∀ b ∈ ch, FpOk X pins H b) : Inv X pins σ H { s with heap := h', toks := t' } := by
  have nit : ∀ b u, H b = some u -> b ∉ ch := fun b u e z => by rw [(hf b z).1] at e; cases e
  refine I.step (g' := s.gens) (d' := s.drawn) (ch := ch) (fun b hb => ?_) (fun b o _ _ hc e _ => k b o hc e) (fun b o _ _ hc e _ => ⟨o.slots, k b o hc e⟩) (fun _ _ _ _ n => n)
    (fun b o hc e => ⟨o, k b o hc e⟩) (fun _ _ e => e) (fun _ _ _ e => e) (fun b ps e => ⟨#[], by rw [e]; simp⟩) (fun m hm => ?_) (fun b u e => ?_) I.bare
  · obtain ⟨_, f1, _, f3, f4, f5⟩ := hf b hb
    exact ⟨f3, f1, f4, f5⟩
  · obtain ⟨o, es, ep, ho, r⟩ := hm
    exact ⟨o, es, ep, k _ o (fun z => (hf _ z).2.1 rfl) ho, r⟩
  · refine (I.hok b u e).stay (fun c v hc q => k c v ?_ q) (fun _ q => q) fun _ _ q => q
    rcases hc with z | z
    · rw [z]; exact nit b u e
    · exact nit c _ z
theorem stepN {ch : List Addr} {t' : Nat} {T : Addr} {o : HO} (I : Inv X pins σ H s) (k : ∀ b o, b ∉ ch -> s.heap.get? b = some o -> h'.get? b = some o) (hf : ∀ b ∈ ch, FpOk X pins H b) (hT : s.heap.objs.size <= T)
    (new : ObjOk X.prog X.w (upd H T o) h' T o) : Inv X pins σ (upd H T o) { s with heap := h', toks := t' } := by
  have nit : ∀ b u, H b = some u -> b ∉ ch := fun b u e z => by rw [(hf b z).1] at e; cases e
  have nT : H T = none := I.hok.fresh hT
  refine I.step (g' := s.gens) (d' := s.drawn) (ch := ch) (fun b hb => ?_) (fun b o _ _ hc e _ => k b o hc e) (fun b o _ _ hc e _ => ⟨o.slots, k b o hc e⟩) (fun b u _ e n => ?_)
    (fun b o hc e => ⟨o, k b o hc e⟩) (fun b xs e => by rw [upd_ne (ne_of_none e nT)]; exact e) (fun b ob u e => by rw [upd_ne (ne_of_none e nT)]; exact e) (fun b ps e => ⟨#[], by rw [upd_ne (ne_of_none e nT), e]; simp⟩) (fun m hm => ?_) (fun b u e => ?_) I.bare
  · obtain ⟨_, f1, _, f3, f4, f5⟩ := hf b hb
    exact ⟨f3, f1, f4, f5⟩
  · rw [upd_ne (Nat.ne_of_lt (Nat.lt_of_lt_of_le (Heap.lt_size e) hT))]; exact n
  · obtain ⟨o, es, ep, ho, r⟩ := hm
    exact ⟨o, es, ep, k _ o (fun z => (hf _ z).2.1 rfl) ho, r⟩
  · by_cases hb : b = T
    · subst hb; rw [upd_same] at e; cases e; exact new
    · rw [upd_ne hb] at e
      refine (I.hok b u e).stay (fun c v hc q => k c v ?_ q) (fun c q => by rw [upd_ne (ne_of_none q nT)]; exact q) fun c xs q => by rw [upd_ne (ne_of_none q nT)]; exact q
      rcases hc with z | z
      · rw [z]; exact nit b u e
      · exact nit c _ z
end
def Itz (K : PySem.W.Frag) (a b : Addr) : It :=
  ⟨fun i H => ∃ xs x ys y, SqL K H a xs /\ xs[i]? = some x /\ SqL K H b ys /\ ys[i]? = some y,
   fun i H x H' => ∃ T v u, H T = none /\ x = .ref T /\ H' = upd H T (.tup [v, u]) /\ (∀ xs, SqL K H a xs -> xs[i]? = some v) /\ ∀ ys, SqL K H b ys -> ys[i]? = some u,
   fun i H => ∃ xs ys, SqL K H a xs /\ SqL K H b ys /\ (xs.length <= i ∨ ys.length <= i)⟩
theorem ne_cls {h : Heap} {a b : Addr} {o u : Obj} (h1 : h.get? a = some o) (h2 : h.get? b = some u) (hc : o.cls ≠ u.cls) : a ≠ b := by
  intro e; subst e; rw [h1] at h2; cases h2; exact hc rfl
theorem zip_apart {h : Heap} {z TI TO i1 i2 l1 l2 : Addr} {f0 a b : Value} {k1 k2 : Nat} {xs ys : Array Value} (hz : IsZip h z TI TO f0) (hTI : IsPair h TI (.ref i1) (.ref i2)) (hTO : IsPair h TO a b) (h1 : h.IsListIter i1 l1 k1) (h2 : h.IsListIter i2 l2 k2)
    (g1 : h.IsList l1 xs) (g2 : h.IsList l2 ys) (hio : TI ≠ TO) (h12 : i1 ≠ i2) : ZipApart z TI TO i1 i2 l1 l2 := by
  obtain ⟨o1, e1, c1, _⟩ := h1
  obtain ⟨o2, e2, c2, _⟩ := h2
  obtain ⟨p1, q1, d1, _⟩ := g1
  obtain ⟨p2, q2, d2, _⟩ := g2
  exact ⟨ne_cls hTI hz (by simp), ne_cls hTO hz (by simp), ne_cls e1 hz (by rw [c1]; simp), ne_cls e2 hz (by rw [c2]; simp), hio,
    ne_cls hTI e1 (by rw [c1]; simp), ne_cls hTI e2 (by rw [c2]; simp), ne_cls hTO e1 (by rw [c1]; simp), ne_cls hTO e2 (by rw [c2]; simp), h12,
    ne_cls q1 hz (by rw [d1]; simp), ne_cls q1 hTO (by rw [d1]; simp), ne_cls q1 e1 (by rw [d1, c1]; simp), ne_cls q1 e2 (by rw [d1, c2]; simp),
    ne_cls q2 hz (by rw [d2]; simp), ne_cls q2 hTO (by rw [d2]; simp), ne_cls q2 e1 (by rw [d2, c1]; simp), ne_cls q2 e2 (by rw [d2, c2]; simp)⟩
theorem turn_zip {P : Program} {w : World} {K : PySem.W.Frag} {elts : List Expr} {k : Nat} {pos : Pos} (l1 l2 z TI TO i1 i2 : Addr) (hio : TI ≠ TO) (h12 : i1 ≠ i2) :
    Turn P w K (.Tuple elts k pos) (Itz K l1 l2) [z, TI, TO, i1, i2] z
      (fun i h => IsZip h z TI TO .none /\ IsPair h TI (.ref i1) (.ref i2) /\ (∃ a b, IsPair h TO a b) /\ h.IsListIter i1 l1 i /\ h.IsListIter i2 l2 i) where
  mem := by simp
  obj := fun i h st b hb => by
    obtain ⟨hz, hTI, ⟨a', b', hTO⟩, ⟨o1, e1, c1, d1⟩, ⟨o2, e2, c2, d2⟩⟩ := st
    simp only [List.mem_cons, List.not_mem_nil, or_false] at hb
    rcases hb with rfl | rfl | rfl | rfl | rfl
    · exact ⟨_, hz, fun v z => by cases z⟩
    · exact ⟨_, hTI, fun v z => by cases z⟩
    · exact ⟨_, hTO, fun v z => by cases z⟩
    · exact ⟨o1, e1, fun v z => by rw [d1] at z; cases z⟩
    · exact ⟨o2, e2, fun v z => by rw [d2] at z; cases z⟩
  keep := fun i h h' st k => by
    obtain ⟨hz, hTI, ⟨a', b', hTO⟩, h1, h2⟩ := st
    exact ⟨k z (by simp) _ hz, k TI (by simp) _ hTI, ⟨a', b', k TO (by simp) _ hTO⟩, h1.at fun o e => k i1 (by simp) o e, h2.at fun o e => k i2 (by simp) o e⟩
  item := by
    intro X hP hw hK hc i pins s σ H E I hf st hg
    subst hP hw hK
    obtain ⟨hz, hTI, ⟨a', b', hTO⟩, h1, h2⟩ := st
    obtain ⟨xs, x, ys, y, hq, hx, hr, hy⟩ := hg
    obtain ⟨its, rv, p, _⟩ := I.list hq
    obtain ⟨u, hu, ru⟩ := rv.get hx
    obtain ⟨jts, rw', p', _⟩ := I.list hr
    obtain ⟨u', hu', ru'⟩ := rw'.get hy
    have D := zip_apart hz hTI hTO h1 h2 p.isList p'.isList hio h12
    refine wpAny_pyNext_zip_item D hz hTI hTO h1 h2 p.isList p'.isList (x := u) (y := u') (by simpa using hu) (by simpa using hu') fun h' a1 a2 a3 a4 a5 a6 hk => ⟨_, rfl, ?_⟩
    refine wpAny_letOwnedTupleGo_zip a1 fun h'' hz'' hs'' => ?_
    have nT : H s.heap.objs.size = none := I.hok.fresh (Nat.le_refl _)
    have hTz : s.heap.objs.size ≠ z := Nat.ne_of_gt (Heap.lt_size hz)
    refine ⟨.ref s.heap.objs.size, upd H s.heap.objs.size (.tup [x, y]), stepN (s := s) (t' := s.toks) (ch := [z, TI, TO, i1, i2]) I (fun b o hb q => ?_) hf (Nat.le_refl _) ?_, rfl,
      ⟨_, x, y, nT, rfl, rfl, fun zs hy' => by rw [I.list_inj hy' hq]; exact hx, fun zs hy' => by rw [I.list_inj hy' hr]; exact hy⟩,
      ⟨hz'', hs''.extBut _ _ D.TIz (hk _ _ D.TIz D.TITO D.TIi1 D.TIi2 hTI), ⟨_, _, hs''.extBut _ _ D.TOz a2⟩, a3.extBut hs''.extBut D.i1z, a4.extBut hs''.extBut D.i2z⟩, fun b hb => ?_⟩
    · simp only [List.mem_cons, List.not_mem_nil, or_false, not_or] at hb
      exact hs''.extBut b o hb.1 (hk b o hb.1 hb.2.2.1 hb.2.2.2.1 hb.2.2.2.2 q)
    · exact ⟨(show 2 <= sizeLine by decide), [u, u'], .cons ru (.cons ru' .nil), ⟨_, hs''.extBut _ _ hTz a5, rfl, _, rfl⟩⟩
    · have lt : b < s.heap.objs.size := by
        obtain ⟨o1, e1, _⟩ := h1
        obtain ⟨o2, e2, _⟩ := h2
        simp only [List.mem_cons, List.not_mem_nil, or_false] at hb
        rcases hb with rfl | rfl | rfl | rfl | rfl
        · exact Heap.lt_size hz
        · exact Heap.lt_size hTI
        · exact Heap.lt_size hTO
        · exact Heap.lt_size e1
        · exact Heap.lt_size e2
      rw [upd_ne (Nat.ne_of_lt lt)]
      exact (hf b hb).1
  done := by
    intro X hP hw hK hc i pins s σ H E I hf st hg
    subst hP hw hK
    obtain ⟨hz, hTI, ⟨a', b', hTO⟩, h1, h2⟩ := st
    obtain ⟨xs, ys, hq, hr, hx⟩ := hg
    obtain ⟨its, rv, p, _⟩ := I.list hq
    obtain ⟨jts, rw', p', _⟩ := I.list hr
    have D := zip_apart hz hTI hTO h1 h2 p.isList p'.isList hio h12
    have e1 := rv.length
    have e2 := rw'.length
    refine wpAny_pyNext_zip_end (I.ok.hd hc) D hz hTI hTO h1 h2 p.isList p'.isList ?_ fun h' hk => ⟨rfl, turnedN (t' := s.toks) (ch := [z, TI, TO, i1, i2]) I (fun b o hb q => ?_) hf⟩
    · rcases hx with hx | hx
      · exact .inl (by simp; omega)
      · exact .inr (by simp; omega)
    · simp only [List.mem_cons, List.not_mem_nil, or_false, not_or] at hb
      exact hk b o hb.1 hb.2.2.1 hb.2.2.2.1 hb.2.2.2.2 q
  self := fun _ _ _ _ _ st h => wpAny_pyIter_zip st.1 h
section
variable {X : Cx} {elts : List Expr} {tk : Nat} {tpos : Pos}
def iZip (K : PySem.W.Frag) (ta : TA) : TI := fun σ H R => ta σ H fun vs H1 => ∃ a b, vs = [.ref a, .ref b] /\ (∃ xs, SqL K H1 a xs) /\ (∃ xs, SqL K H1 b xs) /\ R (Itz K a b) H1
theorem pi_zip {a b : Expr} {ta : TA} {p pos : Pos} (hg : Gl X "zip") (hm : X.mg "zip" = none) (ha : PA X [a, b] ta) (hs : starEach [a, b] X.env = [(false, eval a X.env), (false, eval b X.env)] := by rfl) (hs2 : starEach [b] X.env = [(false, eval b X.env)] := by rfl) :
    PI X (.Tuple elts tk tpos) (.Call (.Name "zip" p) [a, b] [] pos) (iZip X.K ta) := by
  intro pins s σ H R I h
  refine Call_ (ld_blt I hg hm (u := .type "zip") (by decide +kernel) (PyProof.Rows.callWith_type1 (thn (ha pos pins s σ H _ I h) fun us s1 ⟨vs, H1, I1, r1, q1⟩ => ?_) (by rw [hs, hs2]) (by rw [hs2]; rfl)))
  obtain ⟨a, b, e, ⟨xs, hq⟩, ⟨ys, hr⟩, q⟩ := q1
  subst e
  obtain ⟨u, u', rfl, ru, ru'⟩ := vals2 r1
  cases ru
  cases ru'
  obtain ⟨its, rv, pl, hz⟩ := I1.list hq
  obtain ⟨jts, rw', pl', hz'⟩ := I1.list hr
  refine call_zip_2 pl.isList pl'.isList fun h' he hTI hTO hi1 hi2 hsz hk => wpAny_pyIter_zip he ?_
  have I2 : Inv X pins σ H1 { s1 with heap := h' } := I1.kept (t' := s1.toks) hk
  refine ⟨s1.heap.objs.size + 4, [s1.heap.objs.size + 4, s1.heap.objs.size + 2, s1.heap.objs.size + 3, s1.heap.objs.size, s1.heap.objs.size + 1], _, _, H1, rfl, I2, turn_zip a b _ _ _ _ _ (show ((s1.heap.objs.size + 2 : Nat) ≠ s1.heap.objs.size + 3) by omega) (show ((s1.heap.objs.size : Nat) ≠ s1.heap.objs.size + 1) by omega), ⟨he, hTI, ⟨_, _, hTO⟩, hi1, hi2⟩, fun c hc => ?_, q⟩
  have hb' : (s1.heap.objs.size : Nat) <= (c : Nat) := by
    simp only [List.mem_cons, List.not_mem_nil, or_false] at hc
    rcases hc with rfl | rfl | rfl | rfl | rfl
    · exact Nat.le_add_right _ _
    · exact Nat.le_add_right _ _
    · exact Nat.le_add_right _ _
    · exact Nat.le_refl _
    · exact Nat.le_add_right _ _
  exact I1.fpOk hb' (I1.hok.fresh hb')
end
theorem compLoop_gen {prog : Program} {w : World} {A : Around} {R : Result -> Shared -> Prop} {s : Shared} {elt target iter : Expr} {ifs : List Expr} {scope : Scope} {pos : Pos} {it acc : Value} {env : Env} (I : Nat -> Shared -> Prop)
    (turn : ∀ n s, I n s -> wpAny (model prog w) A (pyNext it) (fun r s₁ => match r with
      | none => R (.ok .next) s₁
      | some v => wpAny (model prog w) A (letOwnedTupleGo target it v) (fun _ s₁' => wpAny (model prog w) A (assign target env v) (fun _ s₂ =>
          wpAny (model prog w) A (forIn ifs true fun c r => if r = true then do let ok <- isTrue c env (eval c env); pure (ForInStep.yield ok) else pure (ForInStep.yield r)) (fun ok s₃ =>
            if ok = true then wpAny (model prog w) A (eval elt env) (fun x s₄ =>
              wpAny (model prog w) A (call (.builtin "list.append") [acc, x]) (fun _ s₅ => ∃ m, m < n /\ I m s₅) (fun _ _ => False) s₄) (fun _ _ => False) s₃
            else ∃ m, m < n /\ I m s₃) (fun _ _ => False) s₂) (fun _ _ => False) s₁') (fun _ _ => False) s₁) (fun _ _ => False) s)
    (n : Nat) (h : I n s) : codeAny (model prog w) A (.compLoop (.ListComp elt [⟨target, iter, ifs, 0⟩] scope pos) 0 it acc env) R s := by
  refine codeAny_loop rfl I (fun n s hI => ?_) n h
  show wpAny _ A ((compTurn (.ListComp elt [⟨target, iter, ifs, 0⟩] scope pos) 0 it acc env).onRaise (fun x => do noteFrame x env; theTreesLotGoes x)) _ _ s
  refine wpAny_noted ?_
  rw [compTurn_list]
  refine wpAny_bind (wpAny_standAt (wpAny_bind (wpAny_mono (turn n s hI) (fun r s₁ h₁ => ?_) fun _ _ h' => h'.elim)))
  cases r with
  | none => exact wpAny_pure h₁
  | some v =>
    refine wpAny_bind (wpAny_mono h₁ (fun _ s₁' h₁' => ?_) fun _ _ h' => h'.elim)
    refine wpAny_bind (wpAny_mono h₁' (fun _ s₂ h₂ => wpAny_bind (wpAny_mono h₂ (fun ok s₃ h₃ => ?_) fun _ _ h' => h'.elim)) fun _ _ h' => h'.elim)
    cases ok with
    | false => exact wpAny_pure ⟨rfl, h₃⟩
    | true =>
      exact wpAny_bind (wpAny_bind (wpAny_mono h₃ (fun x s₄ h₄ => wpAny_bind (wpAny_mono h₄ (fun _ s₅ h₅ => wpAny_pure (wpAny_pure ⟨rfl, h₅⟩)) fun _ _ h' => h'.elim)) fun _ _ h' => h'.elim))
def clGo (cells : List (Str × Addr)) : List (Str × NameKind) -> List (Str × Addr) -> List (Str × Addr)
  | [], cs => cs
  | (n, k) :: r, cs => clGo cells r (if k == .free then (n, (cells.lookup n).getD 0) :: cs else cs)
theorem closure_of {scope : Scope} {env : Env} (h : ∀ x ∈ scope.names, x.2 = .free -> ∃ c, env.cells.lookup x.1 = some c) : closureFor scope env = pure (clGo env.cells scope.names []) := by
  simp only [closureFor]
  have go : ∀ (l : List (Str × NameKind)) (cs : List (Str × Addr)), (∀ x ∈ l, x.2 = .free -> ∃ c, env.cells.lookup x.1 = some c) ->
      (forIn l cs fun (x : Str × NameKind) (r : List (Str × Addr)) => (if (x.2 == NameKind.free) = true then do let a <- cellOf env x.1; pure (ForInStep.yield ((x.1, a) :: r)) else pure (ForInStep.yield r) : Sem (ForInStep (List (Str × Addr))))) = pure (clGo env.cells l cs) := by
    intro l
    induction l with
    | nil => intro cs _; rfl
    | cons x r ih =>
      intro cs hx
      obtain ⟨n, k⟩ := x
      rw [List.forIn_cons]
      by_cases hk : (k == NameKind.free) = true
      · obtain ⟨c, e⟩ := hx (n, k) List.mem_cons_self (by simpa using hk)
        have e' : env.cells.lookup n = some c := e
        have ec : cellOf env n = pure c := by unfold cellOf; rw [e']
        simp only [hk, if_true, ec, pure_bind]
        rw [ih _ fun y hy => hx y (List.mem_cons_of_mem _ hy)]
        simp only [clGo, hk, if_true, e', Option.getD_some]
      · simp only [hk, Bool.false_eq_true, if_false, pure_bind]
        rw [ih _ fun y hy => hx y (List.mem_cons_of_mem _ hy)]
        simp only [clGo, hk, Bool.false_eq_true, if_false]
  have := go scope.names [] h
  simpa using this
theorem clGo_sub {cells : List (Str × Addr)} : ∀ (l : List (Str × NameKind)) (cs : List (Str × Addr)) (x : Str) (c : Addr), (∀ y ∈ l, y.2 = .free -> ∃ c, cells.lookup y.1 = some c) -> (∀ x c, cs.lookup x = some c -> cells.lookup x = some c) ->
    (clGo cells l cs).lookup x = some c -> cells.lookup x = some c
  | [], cs, x, c, _, h, e => h x c e
  | (n, k) :: r, cs, x, c, hl, h, e => by
    refine clGo_sub r _ x c (fun y hy => hl y (List.mem_cons_of_mem _ hy)) (fun y d => ?_) e
    by_cases hk : (k == NameKind.free) = true
    · rw [if_pos hk]
      obtain ⟨c', e'⟩ := hl (n, k) List.mem_cons_self (by simpa using hk)
      have e' : cells.lookup n = some c' := e'
      intro q
      by_cases hy : y = n
      · subst hy
        rw [List.lookup_cons_self] at q
        rw [<- q, e']; rfl
      · rw [List.lookup_cons, beq_eq_false_iff_ne.mpr hy] at q
        exact h y d q
    · rw [if_neg hk]; exact h y d
theorem clGo_mono {cells : List (Str × Addr)} : ∀ (l : List (Str × NameKind)) (cs : List (Str × Addr)) (x : Str), (cs.lookup x).isSome = true -> ((clGo cells l cs).lookup x).isSome = true
  | [], cs, x, h => h
  | (n, k) :: r, cs, x, h => by
    refine clGo_mono r _ x ?_
    by_cases hk : (k == NameKind.free) = true
    · rw [if_pos hk]
      by_cases hy : x = n
      · subst hy; rw [List.lookup_cons_self]; rfl
      · rw [List.lookup_cons, beq_eq_false_iff_ne.mpr hy]; exact h
    · rw [if_neg hk]; exact h
theorem clGo_has {cells : List (Str × Addr)} : ∀ (l : List (Str × NameKind)) (cs : List (Str × Addr)) (x : Str), (x, NameKind.free) ∈ l -> ((clGo cells l cs).lookup x).isSome = true
  | [], cs, x, h => by simp at h
  | (n, k) :: r, cs, x, h => by
    rcases List.mem_cons.mp h with e | h
    · cases e
      exact clGo_mono r _ _ (by rw [if_pos (show (NameKind.free == NameKind.free) = true from rfl), List.lookup_cons_self]; rfl)
    · exact clGo_has r _ x h
def cxc (X : Cx) (scope : Scope) (C : Addr) (N : List Str) (s₀ : Shared) (H₀ : Hp) (fp : List Addr) (pn : List (Addr × Obj)) : Cx :=
  { X with N := N, s₀ := s₀, H₀ := H₀, env := compEnvC scope (clGo X.env.cells scope.names []) C X.env, outer := X.stack, stack := X.stack, ex := fp, fn := fun _ => false, pn := pn, xe := fun _ _ => False }
structure CompScope (X : Cx) (scope : Scope) (own : List Str) (cap : List (Str × Nat)) : Prop where
  kind : scope.kind = .function
  nocell : ∀ y ∈ scope.names, y.2 ≠ .cell
  names : ∀ y ∈ scope.names, y.2 = .local -> scope.names.lookup y.1 = some .local
  frees : ∀ y ∈ scope.names, y.2 = .free -> X.env.kindOf y.1 = some .cell ∨ X.env.kindOf y.1 = some .free
  caps : ∀ p ∈ cap, scope.names.lookup p.1 = some .free /\ X.N[p.2]? = some p.1
theorem lookup_relabel {env : Env} : ∀ {names : List (Str × NameKind)} {x : Str} {k' : NameKind},
    (names.map fun (n, k) => if (k == NameKind.free && env.scope.kind == .function && env.kindOf n == some .cell) then (n, NameKind.cell) else (n, k)).lookup x = some k' -> (k' = .cell ∨ k' = .free) -> (∀ y ∈ names, y.2 ≠ .cell) -> (x, NameKind.free) ∈ names
  | [], x, k', h, _, _ => by simp at h
  | (n, k) :: r, x, k', h, hk, hc => by
    have ih := @lookup_relabel env r x k'
    rw [List.map_cons] at h
    by_cases hq : (k == NameKind.free && env.scope.kind == .function && env.kindOf n == some .cell) = true
    · simp only [hq, if_true] at h
      have kf : k = NameKind.free := by
        simp only [Bool.and_eq_true, beq_iff_eq] at hq
        exact hq.1.1
      by_cases hx : x = n
      · subst hx; subst kf; exact List.mem_cons_self
      · rw [List.lookup_cons, beq_eq_false_iff_ne.mpr hx] at h
        exact List.mem_cons_of_mem _ (ih h hk fun y hy => hc y (List.mem_cons_of_mem _ hy))
    · simp only [hq, if_false] at h
      by_cases hx : x = n
      · subst hx
        have h' : some k = some k' := by
          have := h
          simp at this
          rw [this]
        cases h'
        rcases hk with z | z
        · exact absurd z (hc (x, k) List.mem_cons_self)
        · subst z; exact List.mem_cons_self
      · have h2 : List.lookup x (List.map (fun (n, k) => if (k == NameKind.free && env.scope.kind == .function && env.kindOf n == some .cell) then (n, NameKind.cell) else (n, k)) r) = some k' := by
          simpa [List.lookup_cons, beq_eq_false_iff_ne.mpr hx] using h
        exact List.mem_cons_of_mem _ (ih h2 hk fun y hy => hc y (List.mem_cons_of_mem _ hy))
theorem relabel_free {env : Env} : ∀ {names : List (Str × NameKind)} {x : Str}, names.lookup x = some .free ->
    (names.map fun (n, k) => if (k == NameKind.free && env.scope.kind == .function && env.kindOf n == some .cell) then (n, NameKind.cell) else (n, k)).lookup x = some .cell ∨
    (names.map fun (n, k) => if (k == NameKind.free && env.scope.kind == .function && env.kindOf n == some .cell) then (n, NameKind.cell) else (n, k)).lookup x = some .free
  | [], x, h => by simp at h
  | (n, k) :: r, x, h => by
    have ih := @relabel_free env r x
    rw [List.map_cons]
    by_cases hx : x = n
    · subst hx
      rw [List.lookup_cons_self] at h
      cases h
      by_cases hq : (NameKind.free == NameKind.free && env.scope.kind == .function && env.kindOf x == some .cell) = true
      · left; simp only [hq, if_true, List.lookup_cons_self]
      · right; simp only [hq, if_false]; simp
    · rw [List.lookup_cons, beq_eq_false_iff_ne.mpr hx] at h
      by_cases hq : (k == NameKind.free && env.scope.kind == .function && env.kindOf n == some .cell) = true
      · simp only [hq, if_true, List.lookup_cons, beq_eq_false_iff_ne.mpr hx]; exact ih h
      · have e : (if (k == NameKind.free && env.scope.kind == .function && env.kindOf n == some .cell) = true then (n, NameKind.cell) else (n, k)) = (n, k) := if_neg hq
        simp only [e, List.lookup_cons, beq_eq_false_iff_ne.mpr hx]; exact ih h
theorem mem_of_lookup' {names : List (Str × NameKind)} {x : Str} {k : NameKind} (h : names.lookup x = some k) : (x, k) ∈ names := PySem.mem_of_lookup h
theorem comp_ok {X : Cx} {scope : Scope} {own : List Str} {cap : List (Str × Nat)} (S : CompScope X scope own cap) {pins : List (Addr × Obj)} {σ : St} {H : Hp} {s : Shared} {C : Addr} {fp : List Addr} (I : Inv X pins σ H s) (hC : s.heap.objs.size <= C) (hf : ∀ b ∈ fp, FpOk X pins H b) (hlt : ∀ b ∈ fp, b < s.heap.objs.size) {N : List Str} {pn : List (Addr × Obj)} :
    (cxc X scope C N s H fp pn).Ok := by
  have hfr : ∀ y ∈ scope.names, y.2 = .free -> ∃ c, X.env.cells.lookup y.1 = some c := fun y hy hk => I.ok.has y.1 (S.frees y hy hk)
  have sub : ∀ x c, (clGo X.env.cells scope.names []).lookup x = some c -> X.env.cells.lookup x = some c := fun x c => clGo_sub _ _ x c hfr (fun x c e => by simp at e)
  refine ⟨I.ok.mod, S.kind, I.ok.glob, I.ok.blt, hC, fun x y c h1 h2 => I.ok.inj x y c (sub _ _ h1) (sub _ _ h2), fun x hx => ?_, fun x c h => (by cases h), I.ok.hd, I.ok.frames, .inl rfl, fun b hb => ⟨Nat.ne_of_lt (Nat.lt_of_lt_of_le (hlt b hb) hC), fun x c e => (hf b hb).2.2.2.2.1 x c (sub x c e)⟩, I.bs, Nat.le_trans I.ok.bsz I.sz, fun b o e hb => ?_, fun b hb z => ?_, I.stack, I.stkFree⟩
  · have hx' : (x, NameKind.free) ∈ scope.names := by
      rcases hx with z | z
      · exact lookup_relabel (env := X.env) z (.inl rfl) S.nocell
      · exact lookup_relabel (env := X.env) z (.inr rfl) S.nocell
    exact Option.isSome_iff_exists.mp (clGo_has scope.names [] x hx')
  · rcases (hf b hb).2.2.2.1 with z | z
    · exact I.ok.noex b o e z
    · exact absurd (Nat.lt_of_lt_of_le (Heap.lt_size (I.ok.bs b o e).1) z) (Nat.lt_irrefl _)
  · rcases List.mem_cons.mp (I.stkSub b z) with q | q
    · exact (hf b hb).2.1 q
    · exact (hf b hb).2.2.1 q
def tComp (wi : TI) (own : List Str) (cap : List (Str × Nat)) (g : TG) (tc : TT) (te : TE) : TE := fun σ H Q => wi σ H fun J H1 => ∃ W : Nat -> Nat -> List V -> Hp -> Prop, (∃ m, W 0 m [] H1) /\ ∀ i m ys H, W i m ys H ->
  ys.length <= sizeLine /\ ((J.stop i H /\ ∀ D, H D = none -> Q (.ref D) (upd H D (.lst ys))) ∨ (J.go i H /\ ∃ N : List V -> Hp -> Prop, (∀ ys' H', N ys' H' -> ∃ m', m' < m /\ W (i + 1) m' ys' H') /\
    ∀ x H', J.yld i H x H' -> ∀ σ1 : St, σ1.length = own.length -> g x (σ1 ++ cap.map fun p => (σ[p.2]?).getD none) H' fun σ2 H2 => (∃ σ1' : St, σ1'.length = own.length /\ σ2 = σ1' ++ cap.map fun p => (σ[p.2]?).getD none) /\
      tc σ2 H2 fun b H3 => if b = true then te σ2 H3 fun y H4 => N (ys ++ [y]) H4 else N ys H3))
def PIfs (X : Cx) (ifs : List Expr) (tc : TT) : Prop :=
  ∀ (pins : List (Addr × Obj)) (s : Shared) (σ : St) (H : Hp) (Q : Bool -> Hp -> Prop), Inv X pins σ H s -> tc σ H Q ->
    wpAny (model X.prog X.w) X.A (forIn ifs true fun c r => if r = true then do let ok <- isTrue c X.env (eval c X.env); pure (ForInStep.yield ok) else pure (ForInStep.yield r)) (TP X pins σ Q) X.xe s
def tTrue : TT := fun _ H Q => Q true H
theorem pifs_nil {X : Cx} : PIfs X [] tTrue := fun pins s σ H Q I h => wpAny_tests_nil ⟨H, I, h⟩
theorem pifs_one {X : Cx} {c : Expr} {tc : TT} (h : PT X c tc) : PIfs X [c] tc := fun pins s σ H Q I hq => wpAny_tests_one (h pins s σ H Q I hq)
theorem un_done {fs ex : List Addr} {H0 H : Hp} {h0 h h' : Heap} {D C : Addr} {o : HO} (u : Un fs ex H0 H h0 h) (hD : h0.objs.size <= D) (hC : h0.objs.size <= C) (sb : Heap.SameBut C h h') (n : H D = none) : Un fs ex H0 (upd H D o) h0 h' := by
  have ne : ∀ b ob, h0.get? b = some ob -> b ≠ C := fun b ob e => Nat.ne_of_lt (Nat.lt_of_lt_of_le (Heap.lt_size e) hC)
  have nd : ∀ b ob, h0.get? b = some ob -> b ≠ D := fun b ob e => Nat.ne_of_lt (Nat.lt_of_lt_of_le (Heap.lt_size e) hD)
  refine ⟨fun b ob e q hb hx => (sb.2 b (ne b ob e)).trans (u.keep b ob e q hb hx), fun b ob e q hb hx => ?_, fun b ob e q hx => ?_, fun b ob e hx => ?_, fun b xs e => ?_, fun b ob xs e => ?_, fun b ps e => ?_⟩
  · obtain ⟨sl, z⟩ := u.slot b ob e q hb hx
    exact ⟨sl, (sb.2 b (ne b ob e)).trans z⟩
  · rw [upd_ne (nd b ob e)]; exact u.free b ob e q hx
  · obtain ⟨o', z⟩ := u.there b ob e hx
    exact ⟨o', (sb.2 b (ne b ob e)).trans z⟩
  · have z := u.tups b xs e
    rw [upd_ne (ne_of_none z n)]; exact z
  · have z := u.frzs b ob xs e
    rw [upd_ne (ne_of_none z n)]; exact z
  · obtain ⟨m, z⟩ := u.tbls b ps e
    exact ⟨m, by rw [upd_ne (ne_of_none z n)]; exact z⟩
theorem pe_lc {X : Cx} {elt tg iter : Expr} {ifs : List Expr} {scope : Scope} {pos : Pos} {own : List Str} {cap : List (Str × Nat)} {wi : TI} {g : TG} {tc : TT} {te : TE} (hc : X.calm = true) (S : CompScope X scope own cap) (hi : PI X tg iter wi)
    (hin : ∀ C s₀ H₀ fp pn, PG (cxc X scope C (own ++ cap.map (·.1)) s₀ H₀ fp pn) tg g /\ PIfs (cxc X scope C (own ++ cap.map (·.1)) s₀ H₀ fp pn) ifs tc /\ PE (cxc X scope C (own ++ cap.map (·.1)) s₀ H₀ fp pn) elt te)
    (hs : ∀ x, foldedSetIterable iter X.env x = pure x := by intro _; rfl) :
    PE X (.ListComp elt [⟨tg, iter, ifs, 0⟩] scope pos) (tComp wi own cap g tc te) := by
  intro pins s σ H Q I h
  rw [eval_ListComp]
  have hfr : ∀ y ∈ scope.names, y.2 = .free -> ∃ c, X.env.cells.lookup y.1 = some c := fun y hy hk => I.ok.has y.1 (S.frees y hy hk)
  refine wpAny_comprehension_free (use := none) rfl hs (closure_of hfr) S.kind S.names (thn (hi pins s σ H _ I h) fun xv s₁ h₁ => thn h₁ fun it s₂ h₂ => ?_)
  obtain ⟨it, fp, tn, J, H2, rfl, I2, T, st2, f2, W, ⟨m0, w0⟩, turn⟩ := h₂
  refine wpAny_newObj_type (wpAny_newFunctionEnv S.nocell (by intro y hy; simp at hy) (fun h₁ hns₁ hsb₁ => ?_) S.kind)
  dsimp only at hns₁ hsb₁ ⊢
  generalize hH3 : s₂.heap.push { cls := .type "list", dict := none, data := .seq ([] : List Value).toArray } = h3 at hns₁ hsb₁ ⊢
  have hC : h3.objs.size = s₂.heap.objs.size + 1 := by rw [<- hH3, Heap.size_push]
  have flt : ∀ b ∈ fp, b < s₂.heap.objs.size := fun b hb => let ⟨o, e, _⟩ := T.obj _ _ st2 b hb; Heap.lt_size e
  have old : ∀ b o, s₂.heap.get? b = some o -> h₁.get? b = some o := fun b o e => hsb₁.extBut b o (by rw [hC]; exact Nat.ne_of_lt (Nat.lt_succ_of_lt (Heap.lt_size e))) (Heap.get?_push_of_some _ (hH3 ▸ Heap.get?_push_of_some _ e))
  have hDC : s₂.heap.objs.size ≠ h3.objs.size := by rw [hC]; exact Nat.ne_of_lt (Nat.lt_succ_self _)
  have hacc : h₁.get? s₂.heap.objs.size = some { cls := .type "list", data := .seq ([] : List Value).toArray } := hsb₁.extBut _ _ hDC (Heap.get?_push_of_some _ (hH3 ▸ Heap.get?_push_size _ rfl))
  generalize hD : s₂.heap.objs.size = D at hacc hDC
  have hCle : s₂.heap.objs.size <= h3.objs.size := by rw [hC]; exact Nat.le_succ _
  generalize hCC : h3.objs.size = C at *
  have ok : (cxc X scope C (own ++ cap.map (·.1)) s₂ H2 fp (X.pn ++ pins)).Ok := comp_ok S I2 hCle f2 flt
  have sub : ∀ x c, (clGo X.env.cells scope.names []).lookup x = some c -> X.env.cells.lookup x = some c := fun x c => clGo_sub _ _ x c hfr (fun x c e => by simp at e)
  obtain ⟨hG, hT, hE⟩ := hin C s₂ H2 fp (X.pn ++ pins)
  have fl : ∀ {α : Type} {t : Sem α} {Q : α -> Shared -> Prop} {E : Value -> Shared -> Prop} {s : Shared}, wpAny (model X.prog X.w) X.A t Q (fun _ _ => False) s -> wpAny (model X.prog X.w) X.A t Q E s := fun h => wpAny_mono h (fun _ _ q => q) fun _ _ f => f.elim
  have dn : D ∉ frs X.stack := fun z => by
    rcases List.mem_cons.mp (I2.stkSub D z) with q | q
    · exact absurd I2.lt (by rw [<- q, hD]; exact Nat.lt_irrefl _)
    · exact I2.nofs (Nat.le_of_eq hD) q
  have pnl : ∀ p ∈ X.pn ++ pins, p.1 < s₂.heap.objs.size := fun p hp => Heap.lt_size (I2.pin p hp).1
  have celt : ∀ x c, (clGo X.env.cells scope.names []).lookup x = some c -> c < s₂.heap.objs.size := fun x c e => let ⟨v, q⟩ := I2.cell x c (sub x c e); q.lt
  have hDle : s₂.heap.objs.size <= D := Nat.le_of_eq hD
  have I0 : Inv (cxc X scope C (own ++ cap.map (·.1)) s₂ H2 fp (X.pn ++ pins)) [(D, { cls := .type "list", data := .seq ([] : List Value).toArray })] (List.replicate own.length none ++ cap.map fun p => (σ[p.2]?).getD none) H2 { s₂ with heap := h₁, toks := s₂.toks + ([] : List (Str × Value)).length } := by
    refine ⟨ok, rfl, I2.bare, Un.kept old, ⟨_, hns₁, fun i x v e1 e2 e3 => ?_⟩, fun x c e => ?_, I2.hok.fresh hCle, fun x c e => I2.freeC x c (sub x c e), fun p hp => ?_, I2.hok.kept old, ?_⟩
    · by_cases hi : i < own.length
      · rw [List.getElem?_append_left (by simpa using hi), List.getElem?_replicate] at e2
        rw [if_pos hi] at e2
        cases e2
      · have e1 : (own ++ cap.map (·.1))[i]? = some x := e1
        rw [List.getElem?_append_right (by omega), List.getElem?_map] at e1
        rw [List.getElem?_append_right (by simpa using hi), List.length_replicate, List.getElem?_map] at e2
        cases q : cap[i - own.length]? with
        | none => rw [q] at e1; cases e1
        | some p =>
          rw [q] at e1 e2
          have e1 : p.1 = x := Option.some.inj e1
          have e2 : (σ[p.2]?).getD none = some v := Option.some.inj e2
          obtain ⟨c1, c2⟩ := S.caps p (List.mem_of_getElem? q)
          have e2' : σ[p.2]? = some (some v) := by
            cases q2 : σ[p.2]? with
            | none => rw [q2] at e2; cases e2
            | some w => rw [q2] at e2; rw [show w = some v from e2]
          have hk := S.frees (p.1, .free) (mem_of_lookup' c1) rfl
          obtain ⟨m, hn, hl⟩ := I2.loc
          obtain ⟨u, ru, lk⟩ := hl p.2 p.1 v c2 e2' (.inr hk)
          refine ⟨u, ru, .inr ?_⟩
          rcases lk with ⟨k1, _⟩ | ⟨_, c, ec, hcell⟩
          · rcases hk with z | z
            · rw [k1] at z; cases z
            · rw [k1] at z; cases z
          · subst e1
            refine ⟨relabel_free (env := X.env) c1, ?_⟩
            obtain ⟨c', ec'⟩ := Option.isSome_iff_exists.mp (clGo_has (cells := X.env.cells) scope.names [] p.1 (mem_of_lookup' c1))
            have z := sub _ _ ec'
            rw [ec] at z; cases z
            obtain ⟨o, ho, hd⟩ := hcell
            exact ⟨c, ec', o, old c o ho, hd⟩
    · obtain ⟨v, o, ho, hd⟩ := I2.cell x c (sub x c e)
      exact ⟨v, o, old c o ho, hd⟩
    · rcases List.mem_append.mp (show p ∈ (X.pn ++ pins) ++ [(D, _)] from hp) with hp | hp
      · obtain ⟨q1, q2, q3, q4, q5⟩ := I2.pin p hp
        refine ⟨old _ _ q1, q2, Nat.ne_of_lt (Nat.lt_of_lt_of_le (Heap.lt_size q1) hCle), fun z => ?_, q5⟩
        rcases List.mem_cons.mp (I2.stkSub p.1 z) with q | q
        · exact q3 q
        · exact q4 q
      · rw [List.mem_singleton.mp hp]
        exact ⟨hacc, I2.hok.fresh hDle, hDC, dn, fun v z => by cases z⟩
    · show (List.replicate own.length none ++ cap.map _).length = (own ++ cap.map _).length
      simp
  have stat : ∀ {H' : Hp} {pl : List (Addr × Obj)}, (∀ p ∈ pl, p.1 = D ∨ p.1 ∈ fp -> p.1 = D) -> (∀ b ∈ fp, H' b = none) -> ∀ b ∈ fp, FpOk (cxc X scope C (own ++ cap.map (·.1)) s₂ H2 fp (X.pn ++ pins)) pl H' b := by
    intro H' pl hpl hn b hb
    refine ⟨hn b hb, Nat.ne_of_lt (Nat.lt_of_lt_of_le (flt b hb) hCle), fun z => ?_, .inl hb, fun x c e => (f2 b hb).2.2.2.2.1 x c (sub x c e), fun p hp => ?_⟩
    · rcases List.mem_cons.mp (I2.stkSub b z) with q | q
      · exact (f2 b hb).2.1 q
      · exact (f2 b hb).2.2.1 q
    · rcases List.mem_append.mp (show p ∈ (X.pn ++ pins) ++ pl from hp) with hp | hp
      · exact (f2 b hb).2.2.2.2.2 p hp
      · intro z
        have := hpl p hp (.inr (z ▸ hb))
        rw [z] at this
        exact absurd (flt b hb) (by rw [this, hD]; exact Nat.lt_irrefl _)
  have loop : ∀ s₃ : Shared, s₃ = { s₂ with heap := h₁, toks := s₂.toks + ([] : List (Str × Value)).length } ->
      codeAny (model X.prog X.w) X.A (.compLoop (.ListComp elt [⟨tg, iter, ifs, 0⟩] scope pos) 0 (.ref it) (.ref D) (compEnvC scope (clGo X.env.cells scope.names []) C X.env)) (compPost (model X.prog X.w) X.A X.xe none (EP X pins σ Q) (.ref D) C) s₃ := by
    rintro s₃ rfl
    refine compLoop_gen (fun n s' => ∃ i ys its k σ1 H', Inv (cxc X scope C (own ++ cap.map (·.1)) s₂ H2 fp (X.pn ++ pins)) [(D, { cls := .type "list", data := .seq (List.toArray its) k })] (σ1 ++ cap.map fun p => (σ[p.2]?).getD none) H' s' /\ σ1.length = own.length /\ Vals ys its /\ tn i s'.heap /\ (∀ b ∈ fp, H' b = none) /\ W i n ys H') ?_ m0
      ⟨0, [], [], 0, _, H2, I0, by simp, .nil, T.keep _ _ _ st2 fun b hb o e => old b o e, fun b hb => (f2 b hb).1, w0⟩
    rintro n s' ⟨i, ys, its, k, σ1, H', J1, hσ, rv, st1, fr1, w1⟩
    obtain ⟨hsz, ⟨stop, qn⟩ | ⟨go, N, hN, step⟩⟩ := turn i n ys H' w1
    · refine thn (T.done (cxc X scope C (own ++ cap.map (·.1)) s₂ H2 fp (X.pn ++ pins)) rfl rfl rfl hc i _ s' _ H' (fun _ _ => False) J1 (stat (by intro p hp _; rw [List.mem_singleton.mp hp]) fr1) st1 stop) fun r s4 ⟨hr, I4⟩ => ?_
      subst hr
      obtain ⟨m4, hn4, _⟩ := I4.loc
      refine ⟨m4, hn4, fun h' sb => ?_⟩
      obtain ⟨pD1, pD2, pD3, pD4, pD5⟩ := I4.pin (D, _) (List.mem_append_right _ List.mem_cons_self)
      have u := un_done (o := .lst ys) I4.base hDle hCle sb pD2
      refine ⟨.ref D, upd H' D (.lst ys), I2.call' (s' := { s4 with heap := h' }) (ch := fp) I4.os u ?_ I4.bare fun b hb => ?_, rfl, qn D pD2⟩
      · intro b ob e
        by_cases hb : b = D
        · subst hb
          rw [upd_same] at e; cases e
          exact ⟨hsz, its, k, rv, (sb.2 _ pD3).trans pD1⟩
        · rw [upd_ne hb] at e
          refine (I4.hok b ob e).stay (fun c v hc' q => (sb.2 c ?_).trans q) (fun c q => by rw [upd_ne (ne_of_none q pD2)]; exact q) fun c xs q => by rw [upd_ne (ne_of_none q pD2)]; exact q
          have hCn : H' C = none := I4.free
          rcases hc' with z | z
          · rw [z]; exact ne_of_none e hCn
          · exact ne_of_none z hCn
      · obtain ⟨q1, q2, q3, q4, q5, q6⟩ := f2 b hb
        exact ⟨q4, q2, q5, q6⟩
    · refine thn (T.item (cxc X scope C (own ++ cap.map (·.1)) s₂ H2 fp (X.pn ++ pins)) rfl rfl rfl hc i _ s' _ H' (fun _ _ => False) J1 (stat (by intro p hp _; rw [List.mem_singleton.mp hp]) fr1) st1 go) fun r s4 ⟨u, hr, h4⟩ => ?_
      subst hr
      refine thn h4 fun _ s5 ⟨x, H5, I5, r5, y5, st5, fr5⟩ => ?_
      have I5' := I5.pinned (stat (by intro p hp _; rw [List.mem_singleton.mp hp]) fr5) (T.obj _ _ st5)
      refine thn (hG _ s5 _ H5 x u _ I5' r5 (step x H5 y5 σ1 hσ)) fun _ s6 ⟨σ6, H6, I6, ⟨σ1', l6, e6⟩, q6⟩ => ?_
      subst e6
      refine thn (hT _ s6 _ H6 _ I6 q6) fun ok s7 ⟨H7, I7, q7⟩ => ?_
      have again : ∀ {s8 : Shared} {H8 : Hp} {ys8 : List V} {its8 : List Value} {k8 : Nat}, Inv (cxc X scope C (own ++ cap.map (·.1)) s₂ H2 fp (X.pn ++ pins)) ([(D, { cls := .type "list", data := .seq (List.toArray its8) k8 })] ++ pinsAt fp s5.heap) (σ1' ++ cap.map fun p => (σ[p.2]?).getD none) H8 s8 -> Vals ys8 its8 -> N ys8 H8 ->
          ∃ m, m < n /\ ∃ i ys its k σ1 H', Inv (cxc X scope C (own ++ cap.map (·.1)) s₂ H2 fp (X.pn ++ pins)) [(D, { cls := .type "list", data := .seq (List.toArray its) k })] (σ1 ++ cap.map fun p => (σ[p.2]?).getD none) H' s8 /\ σ1.length = own.length /\ Vals ys its /\ tn i s8.heap /\ (∀ b ∈ fp, H' b = none) /\ W i m ys H' := by
        intro s8 H8 ys8 its8 k8 I8 rv8 n8
        obtain ⟨m', hm, w8⟩ := hN ys8 H8 n8
        refine ⟨m', hm, i + 1, ys8, its8, k8, σ1', H8, I8.unpinned, l6, rv8, T.keep _ _ _ st5 fun b hb o e => (I8.pin (b, o) (List.mem_append_right _ (List.mem_append_right _ (mem_pinsAt hb e)))).1, fun b hb => ?_, w8⟩
        obtain ⟨o, e, d⟩ := T.obj _ _ st5 b hb
        exact (I8.pin (b, o) (List.mem_append_right _ (List.mem_append_right _ (mem_pinsAt hb e)))).2.1
      cases ok with
      | false => exact again I7 rv q7
      | true =>
        refine thn (hE _ s7 _ H7 _ I7 q7) fun y s8 ⟨v8, H8, I8, r8, q8⟩ => ?_
        obtain ⟨pD1, pD2, pD3, pD4, pD5⟩ := I8.pin (D, _) (List.mem_append_right _ List.mem_cons_self)
        have hsz' : its.toArray.size <= sizeLine := by rw [List.size_toArray, <- rv.length]; exact hsz
        refine wpAny_list_append_plain (hsz := hsz') (items := its.toArray) ⟨k, pD1⟩ fun h9 pl9 sb9 => ?_
        obtain ⟨k9, e9⟩ := pl9
        have ea : its.toArray.push y = (its ++ [y]).toArray := by simp
        rw [ea] at e9
        have I8' : Inv (cxc X scope C (own ++ cap.map (·.1)) s₂ H2 fp (X.pn ++ pins)) (pinsAt fp s5.heap) (σ1' ++ cap.map fun p => (σ[p.2]?).getD none) H8 s8 := I8.pins_of fun p hp => I8.pin p (List.mem_append_right _ (List.mem_append_right _ hp))
        have fD : FpOk (cxc X scope C (own ++ cap.map (·.1)) s₂ H2 fp (X.pn ++ pins)) (pinsAt fp s5.heap) H8 D := by
          refine ⟨pD2, pD3, pD4, .inr hDle, fun x c e z => ?_, fun p hp z => ?_⟩
          · exact absurd (celt x c e) (by rw [z, hD]; exact Nat.lt_irrefl _)
          · rcases List.mem_append.mp (show p ∈ (X.pn ++ pins) ++ _ from hp) with hp | hp
            · exact absurd (pnl p hp) (by rw [z, hD]; exact Nat.lt_irrefl _)
            · exact absurd (flt p.1 (of_pinsAt hp).1) (by rw [z, hD]; exact Nat.lt_irrefl _)
        have I9 : Inv (cxc X scope C (own ++ cap.map (·.1)) s₂ H2 fp (X.pn ++ pins)) (pinsAt fp s5.heap) (σ1' ++ cap.map fun p => (σ[p.2]?).getD none) H8 { s8 with heap := h9 } := turnedN (t' := s8.toks) (ch := [D]) I8' (fun b o hb e => (sb9.2 b fun z => hb (by simp [z])).trans e) fun b hb => by rw [List.mem_singleton.mp hb]; exact fD
        have I10 : Inv (cxc X scope C (own ++ cap.map (·.1)) s₂ H2 fp (X.pn ++ pins)) ([(D, { cls := .type "list", data := .seq (its ++ [y]).toArray k9 })] ++ pinsAt fp s5.heap) (σ1' ++ cap.map fun p => (σ[p.2]?).getD none) H8 { s8 with heap := h9 } := I9.pins_of fun p hp => by
          rcases List.mem_append.mp hp with hp | hp
          · rw [List.mem_singleton.mp hp]
            exact ⟨e9, pD2, pD3, pD4, fun v z => by cases z⟩
          · exact I9.pin p (List.mem_append_right _ hp)
        exact again (s8 := { s8 with heap := h9 }) I10 (rv.append (.cons r8 .nil)) q8
  subst hD
  exact codeAny_compStart_list (loop _ rfl) (T.self _ 0 _ _ _ (T.keep _ _ _ st2 fun b hb o e => old b o e) (loop _ rfl))
theorem ps_lcset {X : Cx} {i : Nat} {y : Str} {py spos : Pos} {elt tg iter : Expr} {ifs : List Expr} {scope : Scope} {pos : Pos} {own : List Str} {cap : List (Str × Nat)} {wi : TI} {g : TG} {tc : TT} {te : TE} (hc : X.calm = true) (S : CompScope X scope own cap) (hi : PI X tg iter wi)
    (hin : ∀ C s₀ H₀ fp pn, PG (cxc X scope C (own ++ cap.map (·.1)) s₀ H₀ fp pn) tg g /\ PIfs (cxc X scope C (own ++ cap.map (·.1)) s₀ H₀ fp pn) ifs tc /\ PE (cxc X scope C (own ++ cap.map (·.1)) s₀ H₀ fp pn) elt te)
    (hN : X.N.Nodup) (hiy : X.N[i]? = some y) (hy : Loc X.env.scope y) (hsw : swapsWith (.ListComp elt [⟨tg, iter, ifs, 0⟩] scope pos) (some (.Name y py)) spos.line X.env = pure true)
    (hs : ∀ x, foldedSetIterable iter X.env x = pure x := by intro _; rfl) (hfn : X.fn y = true ∨ X.env.scope.names.lookup y = some .local := by first | exact .inl rfl | exact .inr rfl | assumption) :
    PS X (.Assign [.Name y py] (.ListComp elt [⟨tg, iter, ifs, 0⟩] scope pos) spos) (tAsg (tComp wi own cap g tc te) (gName i)) := by
  intro pins s σ H Dn I h
  rw [exec_Assign_Name_used _ _ _ _ hsw]
  refine wpAny_bind (wpAny_standAt (wpAny_bind ?_))
  show wpAny _ X.A (do let _ <- comprehension (.ListComp elt [⟨tg, iter, ifs, 0⟩] scope pos) scope X.env _ (newList []) false (eval iter X.env) (some (assign (.Name y py) X.env))) _ _ s
  have hfr : ∀ y ∈ scope.names, y.2 = .free -> ∃ c, X.env.cells.lookup y.1 = some c := fun y hy hk => I.ok.has y.1 (S.frees y hy hk)
  refine wpAny_bind (wpAny_mono (wpAny_comprehension_free (use := some (assign (.Name y py) X.env)) (Q := fun _ s' => SP X pins Dn .next s') rfl hs (closure_of hfr) S.kind S.names (thn (hi pins s σ H _ I h) fun xv s₁ h₁ => thn h₁ fun it s₂ h₂ => ?_)) (fun _ s' hq => wpAny_pure (wpAny_pure hq)) fun _ _ e => e)
  obtain ⟨it, fp, tn, J, H2, rfl, I2, T, st2, f2, W, ⟨m0, w0⟩, turn⟩ := h₂
  refine wpAny_newObj_type (wpAny_newFunctionEnv S.nocell (by intro y hy; simp at hy) (fun h₁ hns₁ hsb₁ => ?_) S.kind)
  dsimp only at hns₁ hsb₁ ⊢
  generalize hH3 : s₂.heap.push { cls := .type "list", dict := none, data := .seq ([] : List Value).toArray } = h3 at hns₁ hsb₁ ⊢
  have hC : h3.objs.size = s₂.heap.objs.size + 1 := by rw [<- hH3, Heap.size_push]
  have flt : ∀ b ∈ fp, b < s₂.heap.objs.size := fun b hb => let ⟨o, e, _⟩ := T.obj _ _ st2 b hb; Heap.lt_size e
  have old : ∀ b o, s₂.heap.get? b = some o -> h₁.get? b = some o := fun b o e => hsb₁.extBut b o (by rw [hC]; exact Nat.ne_of_lt (Nat.lt_succ_of_lt (Heap.lt_size e))) (Heap.get?_push_of_some _ (hH3 ▸ Heap.get?_push_of_some _ e))
  have hDC : s₂.heap.objs.size ≠ h3.objs.size := by rw [hC]; exact Nat.ne_of_lt (Nat.lt_succ_self _)
  have hacc : h₁.get? s₂.heap.objs.size = some { cls := .type "list", data := .seq ([] : List Value).toArray } := hsb₁.extBut _ _ hDC (Heap.get?_push_of_some _ (hH3 ▸ Heap.get?_push_size _ rfl))
  generalize hD : s₂.heap.objs.size = D at hacc hDC
  have hCle : s₂.heap.objs.size <= h3.objs.size := by rw [hC]; exact Nat.le_succ _
  generalize hCC : h3.objs.size = C at *
  have ok : (cxc X scope C (own ++ cap.map (·.1)) s₂ H2 fp (X.pn ++ pins)).Ok := comp_ok S I2 hCle f2 flt
  have sub : ∀ x c, (clGo X.env.cells scope.names []).lookup x = some c -> X.env.cells.lookup x = some c := fun x c => clGo_sub _ _ x c hfr (fun x c e => by simp at e)
  obtain ⟨hG, hT, hE⟩ := hin C s₂ H2 fp (X.pn ++ pins)
  have fl : ∀ {α : Type} {t : Sem α} {Q : α -> Shared -> Prop} {E : Value -> Shared -> Prop} {s : Shared}, wpAny (model X.prog X.w) X.A t Q (fun _ _ => False) s -> wpAny (model X.prog X.w) X.A t Q E s := fun h => wpAny_mono h (fun _ _ q => q) fun _ _ f => f.elim
  have dn : D ∉ frs X.stack := fun z => by
    rcases List.mem_cons.mp (I2.stkSub D z) with q | q
    · exact absurd I2.lt (by rw [<- q, hD]; exact Nat.lt_irrefl _)
    · exact I2.nofs (Nat.le_of_eq hD) q
  have pnl : ∀ p ∈ X.pn ++ pins, p.1 < s₂.heap.objs.size := fun p hp => Heap.lt_size (I2.pin p hp).1
  have celt : ∀ x c, (clGo X.env.cells scope.names []).lookup x = some c -> c < s₂.heap.objs.size := fun x c e => let ⟨v, q⟩ := I2.cell x c (sub x c e); q.lt
  have hDle : s₂.heap.objs.size <= D := Nat.le_of_eq hD
  have I0 : Inv (cxc X scope C (own ++ cap.map (·.1)) s₂ H2 fp (X.pn ++ pins)) [(D, { cls := .type "list", data := .seq ([] : List Value).toArray })] (List.replicate own.length none ++ cap.map fun p => (σ[p.2]?).getD none) H2 { s₂ with heap := h₁, toks := s₂.toks + ([] : List (Str × Value)).length } := by
    refine ⟨ok, rfl, I2.bare, Un.kept old, ⟨_, hns₁, fun i x v e1 e2 e3 => ?_⟩, fun x c e => ?_, I2.hok.fresh hCle, fun x c e => I2.freeC x c (sub x c e), fun p hp => ?_, I2.hok.kept old, ?_⟩
    · by_cases hi : i < own.length
      · rw [List.getElem?_append_left (by simpa using hi), List.getElem?_replicate] at e2
        rw [if_pos hi] at e2
        cases e2
      · have e1 : (own ++ cap.map (·.1))[i]? = some x := e1
        rw [List.getElem?_append_right (by omega), List.getElem?_map] at e1
        rw [List.getElem?_append_right (by simpa using hi), List.length_replicate, List.getElem?_map] at e2
        cases q : cap[i - own.length]? with
        | none => rw [q] at e1; cases e1
        | some p =>
          rw [q] at e1 e2
          have e1 : p.1 = x := Option.some.inj e1
          have e2 : (σ[p.2]?).getD none = some v := Option.some.inj e2
          obtain ⟨c1, c2⟩ := S.caps p (List.mem_of_getElem? q)
          have e2' : σ[p.2]? = some (some v) := by
            cases q2 : σ[p.2]? with
            | none => rw [q2] at e2; cases e2
            | some w => rw [q2] at e2; rw [show w = some v from e2]
          have hk := S.frees (p.1, .free) (mem_of_lookup' c1) rfl
          obtain ⟨m, hn, hl⟩ := I2.loc
          obtain ⟨u, ru, lk⟩ := hl p.2 p.1 v c2 e2' (.inr hk)
          refine ⟨u, ru, .inr ?_⟩
          rcases lk with ⟨k1, _⟩ | ⟨_, c, ec, hcell⟩
          · rcases hk with z | z
            · rw [k1] at z; cases z
            · rw [k1] at z; cases z
          · subst e1
            refine ⟨relabel_free (env := X.env) c1, ?_⟩
            obtain ⟨c', ec'⟩ := Option.isSome_iff_exists.mp (clGo_has (cells := X.env.cells) scope.names [] p.1 (mem_of_lookup' c1))
            have z := sub _ _ ec'
            rw [ec] at z; cases z
            obtain ⟨o, ho, hd⟩ := hcell
            exact ⟨c, ec', o, old c o ho, hd⟩
    · obtain ⟨v, o, ho, hd⟩ := I2.cell x c (sub x c e)
      exact ⟨v, o, old c o ho, hd⟩
    · rcases List.mem_append.mp (show p ∈ (X.pn ++ pins) ++ [(D, _)] from hp) with hp | hp
      · obtain ⟨q1, q2, q3, q4, q5⟩ := I2.pin p hp
        refine ⟨old _ _ q1, q2, Nat.ne_of_lt (Nat.lt_of_lt_of_le (Heap.lt_size q1) hCle), fun z => ?_, q5⟩
        rcases List.mem_cons.mp (I2.stkSub p.1 z) with q | q
        · exact q3 q
        · exact q4 q
      · rw [List.mem_singleton.mp hp]
        exact ⟨hacc, I2.hok.fresh hDle, hDC, dn, fun v z => by cases z⟩
    · show (List.replicate own.length none ++ cap.map _).length = (own ++ cap.map _).length
      simp
  have stat : ∀ {H' : Hp} {pl : List (Addr × Obj)}, (∀ p ∈ pl, p.1 = D ∨ p.1 ∈ fp -> p.1 = D) -> (∀ b ∈ fp, H' b = none) -> ∀ b ∈ fp, FpOk (cxc X scope C (own ++ cap.map (·.1)) s₂ H2 fp (X.pn ++ pins)) pl H' b := by
    intro H' pl hpl hn b hb
    refine ⟨hn b hb, Nat.ne_of_lt (Nat.lt_of_lt_of_le (flt b hb) hCle), fun z => ?_, .inl hb, fun x c e => (f2 b hb).2.2.2.2.1 x c (sub x c e), fun p hp => ?_⟩
    · rcases List.mem_cons.mp (I2.stkSub b z) with q | q
      · exact (f2 b hb).2.1 q
      · exact (f2 b hb).2.2.1 q
    · rcases List.mem_append.mp (show p ∈ (X.pn ++ pins) ++ pl from hp) with hp | hp
      · exact (f2 b hb).2.2.2.2.2 p hp
      · intro z
        have := hpl p hp (.inr (z ▸ hb))
        rw [z] at this
        exact absurd (flt b hb) (by rw [this, hD]; exact Nat.lt_irrefl _)
  have loop : ∀ s₃ : Shared, s₃ = { s₂ with heap := h₁, toks := s₂.toks + ([] : List (Str × Value)).length } ->
      codeAny (model X.prog X.w) X.A (.compLoop (.ListComp elt [⟨tg, iter, ifs, 0⟩] scope pos) 0 (.ref it) (.ref D) (compEnvC scope (clGo X.env.cells scope.names []) C X.env)) (compPost (model X.prog X.w) X.A X.xe (some (assign (.Name y py) X.env)) (fun _ s' => SP X pins Dn .next s') (.ref D) C) s₃ := by
    rintro s₃ rfl
    refine compLoop_gen (fun n s' => ∃ i ys its k σ1 H', Inv (cxc X scope C (own ++ cap.map (·.1)) s₂ H2 fp (X.pn ++ pins)) [(D, { cls := .type "list", data := .seq (List.toArray its) k })] (σ1 ++ cap.map fun p => (σ[p.2]?).getD none) H' s' /\ σ1.length = own.length /\ Vals ys its /\ tn i s'.heap /\ (∀ b ∈ fp, H' b = none) /\ W i n ys H') ?_ m0
      ⟨0, [], [], 0, _, H2, I0, by simp, .nil, T.keep _ _ _ st2 fun b hb o e => old b o e, fun b hb => (f2 b hb).1, w0⟩
    rintro n s' ⟨i, ys, its, k, σ1, H', J1, hσ, rv, st1, fr1, w1⟩
    obtain ⟨hsz, ⟨stop, qn⟩ | ⟨go, N, hN, step⟩⟩ := turn i n ys H' w1
    · refine thn (T.done (cxc X scope C (own ++ cap.map (·.1)) s₂ H2 fp (X.pn ++ pins)) rfl rfl rfl hc i _ s' _ H' (fun _ _ => False) J1 (stat (by intro p hp _; rw [List.mem_singleton.mp hp]) fr1) st1 stop) fun r s4 ⟨hr, I4⟩ => ?_
      subst hr
      obtain ⟨m4, hn4, _⟩ := I4.loc
      obtain ⟨pD1, pD2, pD3, pD4, pD5⟩ := I4.pin (D, _) (List.mem_append_right _ List.mem_cons_self)
      have u := un_done (o := .lst ys) I4.base hDle hCle (show Heap.SameBut C s4.heap s4.heap from ⟨rfl, fun _ _ => rfl⟩) pD2
      have hCn : H' C = none := I4.free
      have I5 : Inv X pins σ (upd H' D (.lst ys)) s4 := by
        refine I2.call' (s' := s4) (ch := fp) I4.os u ?_ I4.bare fun b hb => ?_
        · intro b ob e
          by_cases hb : b = D
          · subst hb
            rw [upd_same] at e; cases e
            exact ⟨hsz, its, k, rv, pD1⟩
          · rw [upd_ne hb] at e
            exact (I4.hok b ob e).stay (fun c v hc' q => q) (fun c q => by rw [upd_ne (ne_of_none q pD2)]; exact q) fun c xs q => by rw [upd_ne (ne_of_none q pD2)]; exact q
        · obtain ⟨q1, q2, q3, q4, q5, q6⟩ := f2 b hb
          exact ⟨q4, q2, q5, q6⟩
      show wpAny _ X.A (assign (.Name y py) X.env (.ref D)) _ _ _
      refine wpAny_assign_Name (store_ok2 I5 hN hiy hy (v := .ref D) rfl (fun s5 I6 ⟨a5, sb5, ha5⟩ => ?_) hfn)
      have hCa : C ≠ a5 := by
        rcases ha5 with z | z
        · rw [z]; exact Nat.ne_of_gt (Nat.lt_of_lt_of_le I2.lt hCle)
        · intro e
          obtain ⟨v, q⟩ := I2.cell _ _ z
          exact absurd (Nat.lt_of_lt_of_le q.lt (by rw [<- e]; exact hCle)) (Nat.lt_irrefl _)
      refine ⟨m4, hn4.sameBut sb5 hCa, fun h3 sb3 => ?_⟩
      have hC0 : (upd H' D (.lst ys)) C = none := by rw [upd_ne (Ne.symm hDC)]; exact hCn
      exact ⟨_, _, turnedN (t' := s5.toks) (ch := [C]) I6 (fun b o hb q => (sb3.2 b (fun z => hb (by simp [z]))).trans q) (fun b hb => by rw [List.mem_singleton.mp hb]; exact I2.fpOk hCle hC0), qn D pD2⟩
    · refine thn (T.item (cxc X scope C (own ++ cap.map (·.1)) s₂ H2 fp (X.pn ++ pins)) rfl rfl rfl hc i _ s' _ H' (fun _ _ => False) J1 (stat (by intro p hp _; rw [List.mem_singleton.mp hp]) fr1) st1 go) fun r s4 ⟨u, hr, h4⟩ => ?_
      subst hr
      refine thn h4 fun _ s5 ⟨x, H5, I5, r5, y5, st5, fr5⟩ => ?_
      have I5' := I5.pinned (stat (by intro p hp _; rw [List.mem_singleton.mp hp]) fr5) (T.obj _ _ st5)
      refine thn (hG _ s5 _ H5 x u _ I5' r5 (step x H5 y5 σ1 hσ)) fun _ s6 ⟨σ6, H6, I6, ⟨σ1', l6, e6⟩, q6⟩ => ?_
      subst e6
      refine thn (hT _ s6 _ H6 _ I6 q6) fun ok s7 ⟨H7, I7, q7⟩ => ?_
      have again : ∀ {s8 : Shared} {H8 : Hp} {ys8 : List V} {its8 : List Value} {k8 : Nat}, Inv (cxc X scope C (own ++ cap.map (·.1)) s₂ H2 fp (X.pn ++ pins)) ([(D, { cls := .type "list", data := .seq (List.toArray its8) k8 })] ++ pinsAt fp s5.heap) (σ1' ++ cap.map fun p => (σ[p.2]?).getD none) H8 s8 -> Vals ys8 its8 -> N ys8 H8 ->
          ∃ m, m < n /\ ∃ i ys its k σ1 H', Inv (cxc X scope C (own ++ cap.map (·.1)) s₂ H2 fp (X.pn ++ pins)) [(D, { cls := .type "list", data := .seq (List.toArray its) k })] (σ1 ++ cap.map fun p => (σ[p.2]?).getD none) H' s8 /\ σ1.length = own.length /\ Vals ys its /\ tn i s8.heap /\ (∀ b ∈ fp, H' b = none) /\ W i m ys H' := by
        intro s8 H8 ys8 its8 k8 I8 rv8 n8
        obtain ⟨m', hm, w8⟩ := hN ys8 H8 n8
        refine ⟨m', hm, i + 1, ys8, its8, k8, σ1', H8, I8.unpinned, l6, rv8, T.keep _ _ _ st5 fun b hb o e => (I8.pin (b, o) (List.mem_append_right _ (List.mem_append_right _ (mem_pinsAt hb e)))).1, fun b hb => ?_, w8⟩
        obtain ⟨o, e, d⟩ := T.obj _ _ st5 b hb
        exact (I8.pin (b, o) (List.mem_append_right _ (List.mem_append_right _ (mem_pinsAt hb e)))).2.1
      cases ok with
      | false => exact again I7 rv q7
      | true =>
        refine thn (hE _ s7 _ H7 _ I7 q7) fun y s8 ⟨v8, H8, I8, r8, q8⟩ => ?_
        obtain ⟨pD1, pD2, pD3, pD4, pD5⟩ := I8.pin (D, _) (List.mem_append_right _ List.mem_cons_self)
        have hsz' : its.toArray.size <= sizeLine := by rw [List.size_toArray, <- rv.length]; exact hsz
        refine wpAny_list_append_plain (hsz := hsz') (items := its.toArray) ⟨k, pD1⟩ fun h9 pl9 sb9 => ?_
        obtain ⟨k9, e9⟩ := pl9
        have ea : its.toArray.push y = (its ++ [y]).toArray := by simp
        rw [ea] at e9
        have I8' : Inv (cxc X scope C (own ++ cap.map (·.1)) s₂ H2 fp (X.pn ++ pins)) (pinsAt fp s5.heap) (σ1' ++ cap.map fun p => (σ[p.2]?).getD none) H8 s8 := I8.pins_of fun p hp => I8.pin p (List.mem_append_right _ (List.mem_append_right _ hp))
        have fD : FpOk (cxc X scope C (own ++ cap.map (·.1)) s₂ H2 fp (X.pn ++ pins)) (pinsAt fp s5.heap) H8 D := by
          refine ⟨pD2, pD3, pD4, .inr hDle, fun x c e z => ?_, fun p hp z => ?_⟩
          · exact absurd (celt x c e) (by rw [z, hD]; exact Nat.lt_irrefl _)
          · rcases List.mem_append.mp (show p ∈ (X.pn ++ pins) ++ _ from hp) with hp | hp
            · exact absurd (pnl p hp) (by rw [z, hD]; exact Nat.lt_irrefl _)
            · exact absurd (flt p.1 (of_pinsAt hp).1) (by rw [z, hD]; exact Nat.lt_irrefl _)
        have I9 : Inv (cxc X scope C (own ++ cap.map (·.1)) s₂ H2 fp (X.pn ++ pins)) (pinsAt fp s5.heap) (σ1' ++ cap.map fun p => (σ[p.2]?).getD none) H8 { s8 with heap := h9 } := turnedN (t' := s8.toks) (ch := [D]) I8' (fun b o hb e => (sb9.2 b fun z => hb (by simp [z])).trans e) fun b hb => by rw [List.mem_singleton.mp hb]; exact fD
        have I10 : Inv (cxc X scope C (own ++ cap.map (·.1)) s₂ H2 fp (X.pn ++ pins)) ([(D, { cls := .type "list", data := .seq (its ++ [y]).toArray k9 })] ++ pinsAt fp s5.heap) (σ1' ++ cap.map fun p => (σ[p.2]?).getD none) H8 { s8 with heap := h9 } := I9.pins_of fun p hp => by
          rcases List.mem_append.mp hp with hp | hp
          · rw [List.mem_singleton.mp hp]
            exact ⟨e9, pD2, pD3, pD4, fun v z => by cases z⟩
          · exact I9.pin p (List.mem_append_right _ hp)
        exact again (s8 := { s8 with heap := h9 }) I10 (rv.append (.cons r8 .nil)) q8
  subst hD
  exact codeAny_compStart_list (loop _ rfl) (T.self _ 0 _ _ _ (T.keep _ _ _ st2 fun b hb o e => old b o e) (loop _ rfl))
end L3
namespace L2
open PySem PySem.Spec PyProof.Rows
section
variable {κ : Type} [DecidableEq κ]
end
section
variable {P : Program} {w : World} {H : Hp} {h : Heap} {a : Addr}
end
section
variable {X : Cx} {pins : List (Addr × Obj)} {σ : St} {H : Hp} {s : Shared} {a : Addr} {y v : V} {u r : Value} {o : Option V} {A : Around} {E : Value -> Shared -> Prop}
end
section
variable {X : Cx} {pins : List (Addr × Obj)} {σ : St} {H : Hp} {s : Shared} {a : Addr} {kvs : List (Key × V)} {k : Key} {u : Value} {A : Around} {E : Value -> Shared -> Prop}
end
section
variable {X : Cx} {o i e value : Expr} {pos pos' tpos : Pos} {td ty tv : TE}
end
section
variable {X : Cx} {pos : Pos}
end
structure M1 (X : Cx) (o : Expr) (m : Str) (apos : Pos) (e : Expr) (cpos : Pos) : Prop where
  base : attributeBase o m X.env (eval o X.env) = eval o X.env
  few : ((backTo cpos (starEach [e] X.env)).all (fun x => !x.1) && (backToKw cpos (keywordEach [] X.env)).all (fun x => x.1.isSome)
    && decide (([e] : List Expr).length + ([] : List Keyword).length + (if ([] : List Keyword).isEmpty then 0 else 1) < 30)) = true
  line : (apos.endLine == cpos.line) = true
  trees : backTo cpos (starEach [e] X.env) = [(false, eval e X.env)]
structure M2 (X : Cx) (o : Expr) (m : Str) (apos : Pos) (e f : Expr) (cpos : Pos) : Prop where
  base : attributeBase o m X.env (eval o X.env) = eval o X.env
  few : ((backTo cpos (starEach [e, f] X.env)).all (fun x => !x.1) && (backToKw cpos (keywordEach [] X.env)).all (fun x => x.1.isSome)
    && decide (([e, f] : List Expr).length + ([] : List Keyword).length + (if ([] : List Keyword).isEmpty then 0 else 1) < 30)) = true
  line : (apos.endLine == cpos.line) = true
  trees : backTo cpos (starEach [e, f] X.env) = [(false, eval e X.env), (false, eval f X.env)]
section
variable {X : Cx} {pins : List (Addr × Obj)} {σ : St} {H : Hp} {s : Shared} {a : Addr} {y d : V} {u r : Value} {o : Option V} {A : Around} {E : Value -> Shared -> Prop}
end
section
variable {X : Cx} {o e f : Expr} {apos cpos : Pos} {td ty tx : TE}
end
section
variable {X : Cx} {pins : List (Addr × Obj)} {σ : St} {H : Hp} {s : Shared} {a : Addr} {kvs : List (Key × V)} {A : Around} {E : Value -> Shared -> Prop}
end
section
variable {X : Cx} {pins : List (Addr × Obj)} {σ : St} {H : Hp} {s : Shared} {a : Addr} {y : V} {u : Value} {A : Around} {E : Value -> Shared -> Prop}
end
end L2
namespace L4
open PySem PySem.Spec L2 L3
open PyProof.Rows hiding St
def dxp (w : World) (a : Addr) (o : Obj) (kvs : List (Key × V)) : Heap -> Prop := fun h => h.get? a = some o /\ kvs.length <= sizeLine /\ (a == sysModules) = false /\ ∃ vs, KV kvs vs /\ ∀ P, o.IsDictOf (mixKind P w) vs
def DX (w : World) (a : Addr) (o : Obj) (kvs : List (Key × V)) : HO := .ext (dxp w a o kvs)
section
variable {X : Cx} {pins : List (Addr × Obj)} {σ : St} {H : Hp} {s : Shared} {a : Addr} {ob : Obj} {kvs : List (Key × V)} {k : Key} {y v : V} {u r : Value} {A : Around} {E : Value -> Shared -> Prop}
end
section
variable {X : Cx} {o i e f value : Expr} {pos pos' tpos apos cpos : Pos} {td ty tv tx : TE}
end
section
variable {X : Cx} {pins : List (Addr × Obj)} {σ : St} {H : Hp} {s : Shared} {a : Addr} {ob : Obj} {kvs : List (Key × V)}
end
inductive PairsAt (P : Program) (w : World) (h : Heap) : List Value -> List (Key × Value) -> Prop
  | nil : PairsAt P w h [] []
  | cons {a : Addr} {r : List Value} {k : Key} {kv v : Value} {kvs : List (Key × Value)} : h.IsTuple a #[kv, v] -> (mixKind P w).is k kv = true -> PairsAt P w h r kvs -> PairsAt P w h (.ref a :: r) ((k, v) :: kvs)
section
variable {prog : Program} {w : World} {A : Around} {s : Shared} {R : Result -> Shared -> Prop}
end
section
variable {prog : Program} {w : World} {A : Around} {E : Value -> Shared -> Prop} {s : Shared}
end
inductive PairsV (K : PySem.W.Frag) (H : Hp) : List V -> List (Key × V) -> Prop
  | nil : PairsV K H [] []
  | cons {a : Addr} {r : List V} {k : Key} {v : V} {kvs : List (Key × V)} : SqT K H a [kV k, v] -> PairsV K H r kvs -> PairsV K H (.ref a :: r) ((k, v) :: kvs)
section
variable {X : Cx} {pins : List (Addr × Obj)} {σ : St} {H : Hp} {s : Shared}
end
section
variable {X : Cx}
end
section
variable {X : Cx} {pins : List (Addr × Obj)} {σ : St} {H : Hp} {s : Shared} {a v : Addr} {ob : Obj} {kvs : List (Key × V)} {cls : String}
end
structure M0 (X : Cx) (o : Expr) (m : Str) (apos cpos : Pos) : Prop where
  base : attributeBase o m X.env (eval o X.env) = eval o X.env
  line : (apos.endLine == cpos.line) = true
section
variable {X : Cx} {o : Expr} {apos cpos : Pos} {td : TE}
end
section
variable {X : Cx} {pins : List (Addr × Obj)} {σ : St} {H : Hp} {s : Shared} {a b : Addr} {oa ob : Obj} {ka kb : List (Key × Int)} {A : Around} {E : Value -> Shared -> Prop}
end
section
variable {X : Cx} {i o : Expr} {ta tb : TE}
end
section
variable {X : Cx} {pins : List (Addr × Obj)} {σ : St} {H : Hp} {s : Shared} {a : Addr} {ob : Obj} {kvs : List (Key × V)}
end
section
variable {X : Cx} {pins : List (Addr × Obj)} {σ : St} {H H' : Hp} {s : Shared} {h' : Heap}
end
end L4
namespace Dv
open PySem PySem.Spec L2 L3 L4
open PyProof.Rows hiding St
structure KW where
  fr : PySem.W.Frag
  w : World
instance : Coe KW PySem.W.Frag := ⟨KW.fr⟩
abbrev _root_.L2.Cx.kw (X : Cx) : KW := ⟨X.K, X.w⟩
inductive D where
  | non | bl (b : Bool) | int (i : Int) | str (x : Str) | lst (xs : List D) | tup (xs : List D) | scr (ns : List Int) | obj (C : Addr) (fs : List Str) (ds : List D)
mutual
def Rp (K : KW) (F : Hp) : D -> V -> Prop
  | .non, v => v = .non
  | .bl b, v => v = .bl b
  | .int i, v => v = .int i
  | .str x, v => v = .str x
  | .lst ds, v => ∃ a vs, v = .ref a /\ F a = some (.lst vs) /\ Rps K F ds vs
  | .tup ds, v => ∃ a vs, v = .ref a /\ F a = some (.tup vs) /\ Rps K F ds vs
  | .scr ns, v => ∃ a, v = .ref a /\ SqL K F a (ns.map V.int)
  | .obj C fs ds, v => ∃ a dx vs, v = .ref a /\ F a = some (.ins C dx (fs.zip vs)) /\ fs.length = vs.length /\ Rps K F ds vs
def Rps (K : KW) (F : Hp) : List D -> List V -> Prop
  | [], vs => vs = []
  | d :: ds, vs => ∃ v r, vs = v :: r /\ Rp K F d v /\ Rps K F ds r
end
mutual
theorem Rp.mono {K : KW} {F F' : Hp} (s : Same F F') : ∀ {d : D} {v : V}, Rp K F d v -> Rp K F' d v
  | .non, _, h => h
  | .bl _, _, h => h
  | .int _, _, h => h
  | .str _, _, h => h
  | .lst _, _, ⟨a, vs, e, q, r⟩ => ⟨a, vs, e, s _ _ q, Rps.mono s r⟩
  | .tup _, _, ⟨a, vs, e, q, r⟩ => ⟨a, vs, e, s _ _ q, Rps.mono s r⟩
  | .scr _, _, ⟨a, e, q⟩ => ⟨a, e, s.seq q⟩
  | .obj _ _ _, _, ⟨a, dx, vs, e, q, l, r⟩ => ⟨a, dx, vs, e, s _ _ q, l, Rps.mono s r⟩
theorem Rps.mono {K : KW} {F F' : Hp} (s : Same F F') : ∀ {ds : List D} {vs : List V}, Rps K F ds vs -> Rps K F' ds vs
  | [], _, h => h
  | _ :: _, _, ⟨v, r, e, h, t⟩ => ⟨v, r, e, Rp.mono s h, Rps.mono s t⟩
end
section
variable {K : KW} {F F' H H' : Hp}
theorem Rps.length : ∀ {ds : List D} {vs : List V}, Rps K F ds vs -> ds.length = vs.length
  | [], _, h => by cases h; rfl
  | _ :: _, _, ⟨_, _, e, _, t⟩ => by subst e; simp [Rps.length t]
theorem Rps.append : ∀ {ds es : List D} {vs ws : List V}, Rps K F ds vs -> Rps K F es ws -> Rps K F (ds ++ es) (vs ++ ws)
  | [], _, _, _, h, t => by cases h; exact t
  | _ :: _, _, _, _, ⟨v, r, e, h, t⟩, q => by subst e; exact ⟨v, _, rfl, h, Rps.append t q⟩
theorem Rps.get : ∀ {ds : List D} {vs : List V} {i : Nat} {d : D}, Rps K F ds vs -> ds[i]? = some d -> ∃ v, vs[i]? = some v /\ Rp K F d v
  | [], _, _, _, _, e => by simp at e
  | _ :: _, _, 0, _, ⟨v, r, e, h, t⟩, q => by subst e; simp at q; subst q; exact ⟨v, rfl, h⟩
  | _ :: _, _, i + 1, _, ⟨v, r, e, h, t⟩, q => by
    subst e
    obtain ⟨w, h1, h2⟩ := Rps.get (i := i) t (by simpa using q)
    exact ⟨w, by simpa using h1, h2⟩
theorem Rps.get' : ∀ {ds : List D} {vs : List V} {i : Nat} {v : V}, Rps K F ds vs -> vs[i]? = some v -> ∃ d, ds[i]? = some d /\ Rp K F d v := fun {ds vs i v} r e => by
  have hl := r.length
  have hi : i < vs.length := (List.getElem?_eq_some_iff.mp e).1
  have hd : ds[i]? = some ds[i] := List.getElem?_eq_getElem (by omega)
  obtain ⟨w, h1, h2⟩ := r.get hd
  rw [e] at h1; cases h1
  exact ⟨_, hd, h2⟩
theorem Rps.take : ∀ {ds : List D} {vs : List V} (n : Nat), Rps K F ds vs -> Rps K F (ds.take n) (vs.take n)
  | _, _, 0, _ => rfl
  | [], _, _ + 1, h => by cases h; rfl
  | _ :: _, _, n + 1, ⟨v, r, e, h, t⟩ => by subst e; exact ⟨v, _, rfl, h, Rps.take n t⟩
theorem Rps.drop : ∀ {ds : List D} {vs : List V} (n : Nat), Rps K F ds vs -> Rps K F (ds.drop n) (vs.drop n)
  | _, _, 0, r => r
  | [], _, _ + 1, h => by cases h; rfl
  | _ :: _, _, n + 1, ⟨v, r, e, h, t⟩ => by subst e; exact Rps.drop n t
theorem Rps.snoc {ds : List D} {vs : List V} {d : D} {v : V} (r : Rps K F ds vs) (h : Rp K F d v) : Rps K F (ds ++ [d]) (vs ++ [v]) := r.append ⟨v, [], rfl, h, rfl⟩
theorem Rps.ints : ∀ (ns : List Int), Rps K F (ns.map D.int) (ns.map V.int)
  | [] => rfl
  | _ :: ns => ⟨_, _, rfl, rfl, Rps.ints ns⟩
theorem same_upd {a : Addr} {o : HO} (n : H a = none) : Same H (upd H a o) := fun b u e => by rw [upd_ne (ne_of_none e n)]; exact e
theorem same_into {a : Addr} {o : HO} (s : Same F H) (n : H a = none) : Same F (upd H a o) := s.trans (same_upd n)
structure Ext (F H F' H' : Hp) : Prop where
  ff : Same F F'
  hh : Same H H'
  fh : Same F' H'
  nw : ∀ a, F' a ≠ none -> F a ≠ none ∨ H a = none
theorem Ext.refl (s : Same F H) : Ext F H F H := ⟨Same.refl _, Same.refl _, s, fun _ h => .inl h⟩
theorem Ext.trans {F1 H1 F2 H2 : Hp} (x : Ext F H F1 H1) (y : Ext F1 H1 F2 H2) : Ext F H F2 H2 :=
  ⟨x.ff.trans y.ff, x.hh.trans y.hh, y.fh, fun a h => (y.nw a h).elim (x.nw a) fun z => .inr (x.hh.free z)⟩
theorem Ext.new {a : Addr} {o : HO} (s : Same F H) (n : H a = none) : Ext F H F (upd H a o) := ⟨Same.refl _, same_upd n, same_into s n, fun _ h => .inl h⟩
theorem Ext.newF {a : Addr} {o : HO} (s : Same F H) (n : H a = none) : Ext F H (upd F a o) (upd H a o) := by
  refine ⟨same_upd (s.free n), same_upd n, fun b u e => ?_, fun b h => ?_⟩
  · by_cases hb : b = a
    · subst hb; rw [upd_same] at e ⊢; exact e
    · rw [upd_ne hb] at e ⊢; exact s b u e
  · by_cases hb : b = a
    · subst hb; exact .inr n
    · rw [upd_ne hb] at h; exact .inl h
theorem Ext.freeze {a : Addr} {o : HO} (x : Ext F H F' H') (n : H a = none) (n' : F' a = none) (e : H' a = some o) : Ext F H (upd F' a o) H' := by
  refine ⟨x.ff.trans (same_upd n'), x.hh, fun b u q => ?_, fun b h => ?_⟩
  · by_cases hb : b = a
    · subst hb; rw [upd_same] at q; cases q; exact e
    · rw [upd_ne hb] at q; exact x.fh b u q
  · by_cases hb : b = a
    · subst hb; exact .inr n
    · rw [upd_ne hb] at h; exact x.nw b h
def Rq (K : KW) (F H : Hp) (d : D) (v : V) : Prop := Rp K F d v ∨ ∃ a vs ds, d = .lst ds /\ v = .ref a /\ H a = some (.lst vs) /\ Rps K F ds vs
theorem Rq.mono (f : Same F F') (h : Same H H') {d : D} {v : V} (r : Rq K F H d v) : Rq K F' H' d v := by
  rcases r with r | ⟨a, vs, ds, e1, e2, e3, e4⟩
  · exact .inl (r.mono f)
  · exact .inr ⟨a, vs, ds, e1, e2, h _ _ e3, e4.mono f⟩
theorem Rq.lst (s : Same F H) {ds : List D} {v : V} (r : Rq K F H (.lst ds) v) : ∃ a vs, v = .ref a /\ H a = some (.lst vs) /\ Rps K F ds vs := by
  rcases r with ⟨a, vs, e, q, r⟩ | ⟨a, vs, ds', e1, e2, e3, e4⟩
  · exact ⟨a, vs, e, s _ _ q, r⟩
  · cases e1; exact ⟨a, vs, e2, e3, e4⟩
theorem Rq.one {d : D} {v : V} (r : Rq K F H d v) (h : ∀ ds, d ≠ .lst ds) : Rp K F d v := by
  rcases r with r | ⟨a, vs, ds, e1, _⟩
  · exact r
  · exact (h ds e1).elim
theorem Rq.int {i : Int} {v : V} (r : Rq K F H (.int i) v) : v = .int i := r.one fun _ h => by cases h
theorem Rq.bl {i : Bool} {v : V} (r : Rq K F H (.bl i) v) : v = .bl i := r.one fun _ h => by cases h
theorem Rq.str {i : Str} {v : V} (r : Rq K F H (.str i) v) : v = .str i := r.one fun _ h => by cases h
theorem Rq.non {v : V} (r : Rq K F H .non v) : v = .non := r.one fun _ h => by cases h
theorem Rq.tup (s : Same F H) {ds : List D} {v : V} (r : Rq K F H (.tup ds) v) : ∃ a vs, v = .ref a /\ H a = some (.tup vs) /\ Rps K F ds vs := by
  obtain ⟨a, vs, e, q, r⟩ := r.one fun _ h => by cases h
  exact ⟨a, vs, e, s _ _ q, r⟩
theorem Rq.scr (s : Same F H) {ns : List Int} {v : V} (r : Rq K F H (.scr ns) v) : ∃ a, v = .ref a /\ SqL K H a (ns.map V.int) := by
  obtain ⟨a, e, q⟩ := r.one fun _ h => by cases h
  exact ⟨a, e, s.seq q⟩
end
inductive OT where
  | frz (d : D) | lst (ts : List OT) | tup (ts : List OT)
mutual
def RepO (K : KW) (F H : Hp) : OT -> V -> Prop
  | .frz d, v => Rp K F d v
  | .lst ts, v => ∃ a vs, v = .ref a /\ H a = some (.lst vs) /\ RepOs K F H ts vs
  | .tup ts, v => ∃ a vs, v = .ref a /\ H a = some (.tup vs) /\ RepOs K F H ts vs
def RepOs (K : KW) (F H : Hp) : List OT -> List V -> Prop
  | [], vs => vs = []
  | t :: ts, vs => ∃ v r, vs = v :: r /\ RepO K F H t v /\ RepOs K F H ts r
end
def itemsH (H : Hp) (a : Addr) : List V := match H a with
  | some (.lst vs) => vs
  | some (.tup vs) => vs
  | _ => []
mutual
def feetO (H : Hp) : OT -> V -> List Addr
  | .frz _, _ => []
  | .lst ts, v => match v with
    | .ref a => a :: feetOs H ts (itemsH H a)
    | _ => []
  | .tup ts, v => match v with
    | .ref a => a :: feetOs H ts (itemsH H a)
    | _ => []
def feetOs (H : Hp) : List OT -> List V -> List Addr
  | [], _ => []
  | t :: ts, vs => match vs with
    | v :: r => feetO H t v ++ feetOs H ts r
    | [] => []
end
mutual
def OT.erase : OT -> D
  | .frz d => d
  | .lst ts => .lst (erases ts)
  | .tup ts => .tup (erases ts)
def erases : List OT -> List D
  | [] => []
  | t :: ts => t.erase :: erases ts
end
theorem itemsH_lst {H : Hp} {a : Addr} {vs : List V} (h : H a = some (.lst vs)) : itemsH H a = vs := by unfold itemsH; rw [h]
theorem itemsH_tup {H : Hp} {a : Addr} {vs : List V} (h : H a = some (.tup vs)) : itemsH H a = vs := by unfold itemsH; rw [h]
section
variable {K : KW} {F F' H H' : Hp}
mutual
theorem RepO.ext (f : Same F F') (h : Same H H') : ∀ {t : OT} {v : V}, RepO K F H t v -> RepO K F' H' t v /\ feetO H' t v = feetO H t v
  | .frz _, _, r => ⟨Rp.mono f r, rfl⟩
  | .lst ts, _, ⟨a, vs, e, q, r⟩ => by
    subst e
    obtain ⟨r1, r2⟩ := RepOs.ext f h r
    exact ⟨⟨a, vs, rfl, h _ _ q, r1⟩, by simp only [feetO, itemsH_lst q, itemsH_lst (h _ _ q), r2]⟩
  | .tup ts, _, ⟨a, vs, e, q, r⟩ => by
    subst e
    obtain ⟨r1, r2⟩ := RepOs.ext f h r
    exact ⟨⟨a, vs, rfl, h _ _ q, r1⟩, by simp only [feetO, itemsH_tup q, itemsH_tup (h _ _ q), r2]⟩
theorem RepOs.ext (f : Same F F') (h : Same H H') : ∀ {ts : List OT} {vs : List V}, RepOs K F H ts vs -> RepOs K F' H' ts vs /\ feetOs H' ts vs = feetOs H ts vs
  | [], _, r => ⟨r, rfl⟩
  | t :: ts, _, ⟨v, r, e, h1, h2⟩ => by
    subst e
    obtain ⟨a1, a2⟩ := RepO.ext f h h1
    obtain ⟨b1, b2⟩ := RepOs.ext f h h2
    exact ⟨⟨v, r, rfl, a1, b1⟩, by simp only [feetOs, a2, b2]⟩
end
mutual
theorem RepO.other {a : Addr} {o : HO} : ∀ {t : OT} {v : V}, RepO K F H t v -> a ∉ feetO H t v -> RepO K F (upd H a o) t v /\ feetO (upd H a o) t v = feetO H t v
  | .frz _, _, r, _ => ⟨r, rfl⟩
  | .lst ts, _, ⟨b, vs, e, q, r⟩, hn => by
    subst e
    simp only [feetO, itemsH_lst q, List.mem_cons, not_or] at hn
    obtain ⟨r1, r2⟩ := RepOs.other (o := o) r hn.2
    have q' : upd H a o b = some (.lst vs) := by rw [upd_ne (Ne.symm hn.1)]; exact q
    exact ⟨⟨b, vs, rfl, q', r1⟩, by simp only [feetO, itemsH_lst q, itemsH_lst q', r2]⟩
  | .tup ts, _, ⟨b, vs, e, q, r⟩, hn => by
    subst e
    simp only [feetO, itemsH_tup q, List.mem_cons, not_or] at hn
    obtain ⟨r1, r2⟩ := RepOs.other (o := o) r hn.2
    have q' : upd H a o b = some (.tup vs) := by rw [upd_ne (Ne.symm hn.1)]; exact q
    exact ⟨⟨b, vs, rfl, q', r1⟩, by simp only [feetO, itemsH_tup q, itemsH_tup q', r2]⟩
theorem RepOs.other {a : Addr} {o : HO} : ∀ {ts : List OT} {vs : List V}, RepOs K F H ts vs -> a ∉ feetOs H ts vs -> RepOs K F (upd H a o) ts vs /\ feetOs (upd H a o) ts vs = feetOs H ts vs
  | [], _, r, _ => ⟨r, rfl⟩
  | t :: ts, _, ⟨v, r, e, h1, h2⟩, hn => by
    subst e
    simp only [feetOs, List.mem_append, not_or] at hn
    obtain ⟨a1, a2⟩ := RepO.other (o := o) h1 hn.1
    obtain ⟨b1, b2⟩ := RepOs.other (o := o) h2 hn.2
    exact ⟨⟨v, r, rfl, a1, b1⟩, by simp only [feetOs, a2, b2]⟩
end
mutual
theorem RepO.feet {a : Addr} : ∀ {t : OT} {v : V}, RepO K F H t v -> a ∈ feetO H t v -> H a ≠ none
  | .frz _, _, _, h => by simp [feetO] at h
  | .lst ts, _, ⟨b, vs, e, q, r⟩, h => by
    subst e
    simp only [feetO, itemsH_lst q, List.mem_cons] at h
    rcases h with rfl | h
    · rw [q]; simp
    · exact RepOs.feet r h
  | .tup ts, _, ⟨b, vs, e, q, r⟩, h => by
    subst e
    simp only [feetO, itemsH_tup q, List.mem_cons] at h
    rcases h with rfl | h
    · rw [q]; simp
    · exact RepOs.feet r h
theorem RepOs.feet {a : Addr} : ∀ {ts : List OT} {vs : List V}, RepOs K F H ts vs -> a ∈ feetOs H ts vs -> H a ≠ none
  | [], _, _, h => by simp [feetOs] at h
  | t :: ts, _, ⟨v, r, e, h1, h2⟩, h => by
    subst e
    simp only [feetOs, List.mem_append] at h
    rcases h with h | h
    · exact RepO.feet h1 h
    · exact RepOs.feet h2 h
end
mutual
theorem RepO.read (s : Same F H) : ∀ {t : OT} {v : V}, RepO K F H t v -> Rp K H t.erase v
  | .frz _, _, r => Rp.mono s r
  | .lst ts, _, ⟨b, vs, e, q, r⟩ => ⟨b, vs, e, q, RepOs.read s r⟩
  | .tup ts, _, ⟨b, vs, e, q, r⟩ => ⟨b, vs, e, q, RepOs.read s r⟩
theorem RepOs.read (s : Same F H) : ∀ {ts : List OT} {vs : List V}, RepOs K F H ts vs -> Rps K H (erases ts) vs
  | [], _, r => r
  | t :: ts, _, ⟨v, r, e, h1, h2⟩ => ⟨v, r, e, RepO.read s h1, RepOs.read s h2⟩
end
def addF (F H : Hp) (as : List Addr) : Hp := fun b => if b ∈ as then H b else F b
mutual
theorem RepO.fz {as : List Addr} (f : Same F (addF F H as)) : ∀ {t : OT} {v : V}, RepO K F H t v -> (∀ a ∈ feetO H t v, a ∈ as) -> Rp K (addF F H as) t.erase v
  | .frz _, _, r, _ => Rp.mono f r
  | .lst ts, _, ⟨b, vs, e, q, r⟩, h => by
    subst e
    simp only [feetO, itemsH_lst q] at h
    exact ⟨b, vs, rfl, by unfold addF; rw [if_pos (h b (by simp))]; exact q, RepOs.fz f r fun a ha => h a (by simp [ha])⟩
  | .tup ts, _, ⟨b, vs, e, q, r⟩, h => by
    subst e
    simp only [feetO, itemsH_tup q] at h
    exact ⟨b, vs, rfl, by unfold addF; rw [if_pos (h b (by simp))]; exact q, RepOs.fz f r fun a ha => h a (by simp [ha])⟩
theorem RepOs.fz {as : List Addr} (f : Same F (addF F H as)) : ∀ {ts : List OT} {vs : List V}, RepOs K F H ts vs -> (∀ a ∈ feetOs H ts vs, a ∈ as) -> Rps K (addF F H as) (erases ts) vs
  | [], _, r, _ => r
  | t :: ts, _, ⟨v, r, e, h1, h2⟩, h => by
    subst e
    simp only [feetOs] at h
    exact ⟨v, r, rfl, RepO.fz f h1 fun a ha => h a (by simp [ha]), RepOs.fz f h2 fun a ha => h a (by simp [ha])⟩
end
theorem same_addF {as : List Addr} (h : ∀ a ∈ as, F a = none) : Same F (addF F H as) := fun b u e => by
  unfold addF
  rw [if_neg fun z => by rw [h b z] at e; cases e]
  exact e
end
def Rkv (K : KW) (F : Hp) (kvs : List (Key × D)) (vs : List (Key × V)) : Prop := Paired (fun p q => p.1 = q.1 /\ Rp K F p.2 q.2) kvs vs
theorem Rkv.mono {K : KW} {F F' : Hp} (s : Same F F') {kvs : List (Key × D)} {vs : List (Key × V)} (r : Rkv K F kvs vs) : Rkv K F' kvs vs := Paired.mapP r fun _ _ h => ⟨h.1, h.2.mono s⟩
inductive En where
  | val (d : D) | acc (ds : List D) | bor (ds : List D) | oac (a dx C : Addr) (fs : List Str) (ds : List D) | tre (t : OT)
    | dct (oa : Option Addr) (kvs : List (Key × D)) | dbo (kvs : List (Key × D))
abbrev EnvD := List (Option En)
structure Bs where
  F0 : Hp
  H0 : Hp
def RepE (K : KW) (B : Bs) (F H : Hp) : En -> V -> Prop
  | .val d, v => Rp K F d v
  | .acc ds, v => ∃ a vs, v = .ref a /\ H a = some (.lst vs) /\ F a = none /\ B.H0 a = none /\ Rps K F ds vs
  | .bor ds, v => ∃ a vs, v = .ref a /\ B.H0 a = some (.lst vs) /\ Rps K F ds vs
  | .oac a dx C fs ds, v => ∃ vs, v = .ref a /\ H a = some (.ins C dx (fs.zip vs)) /\ fs.length = vs.length /\ F a = none /\ B.H0 a = none /\ Rps K F ds vs
  | .tre t, v => RepO K F H t v /\ (feetO H t v).Nodup /\ ∀ a ∈ feetO H t v, F a = none /\ B.H0 a = none
  | .dct oa kvs, v => ∃ a ob vs, v = .ref a /\ H a = some (DX K.w a ob vs) /\ F a = none /\ B.H0 a = none /\ Rkv K F kvs vs /\ ∀ b, oa = some b -> b = a
  | .dbo kvs, v => ∃ a ob vs, v = .ref a /\ B.H0 a = some (DX K.w a ob vs) /\ Rkv K F kvs vs
def En.own : En -> Bool
  | .acc _ => true
  | .dct _ _ => true
  | .oac _ _ _ _ _ => true
  | _ => false
def feetE (H : Hp) : En -> V -> List Addr
  | .acc _, v => match v with
    | .ref a => [a]
    | _ => []
  | .oac _ _ _ _ _, v => match v with
    | .ref a => [a]
    | _ => []
  | .tre t, v => feetO H t v
  | .dct _ _, v => match v with
    | .ref a => [a]
    | _ => []
  | _, _ => []
theorem feetE_own {H : Hp} {x : En} {a : Addr} (o : x.own = true) : feetE H x (.ref a) = [a] := by cases x <;> first | rfl | cases o
structure Rep (K : KW) (B : Bs) (F : Hp) (σ : St) (H : Hp) (ρ : EnvD) : Prop where
  ex : Ext B.F0 B.H0 F H
  len : σ.length = ρ.length
  ents : ∀ (i : Nat) x, ρ[i]? = some (some x) -> ∃ v, σ[i]? = some (some v) /\ RepE K B F H x v
  dj : ∀ (i j : Nat) x y v w, ρ[i]? = some (some x) -> ρ[j]? = some (some y) -> σ[i]? = some (some v) -> σ[j]? = some (some w) -> i ≠ j -> ∀ a ∈ feetE H x v, a ∉ feetE H y w
section
variable {K : KW} {B : Bs} {F F' H H' : Hp} {σ : St} {ρ : EnvD}
theorem keep_none {a : Addr} (e : Ext F H F' H') (h : F a = none) (hh : H a ≠ none) : F' a = none := by
  cases q : F' a with
  | none => rfl
  | some o => exact ((e.nw a (by rw [q]; simp)).elim (fun z => (z h).elim) fun z => (hh z).elim)
theorem RepE.ext {x : En} {v : V} (r : RepE K B F H x v) (e : Ext F H F' H') : RepE K B F' H' x v := by
  cases x with
  | val d => exact Rp.mono e.ff r
  | acc ds =>
    obtain ⟨a, vs, e1, e2, e3, e4, e5⟩ := r
    exact ⟨a, vs, e1, e.hh _ _ e2, keep_none e e3 (by rw [e2]; simp), e4, e5.mono e.ff⟩
  | bor ds =>
    obtain ⟨a, vs, e1, e2, e5⟩ := r
    exact ⟨a, vs, e1, e2, e5.mono e.ff⟩
  | oac a dx C fs ds =>
    obtain ⟨vs, e1, e2, el, e3, e4, e5⟩ := r
    exact ⟨vs, e1, e.hh _ _ e2, el, keep_none e e3 (by rw [e2]; simp), e4, e5.mono e.ff⟩
  | tre t =>
    obtain ⟨r1, r2, r3⟩ := r
    obtain ⟨s1, s2⟩ := RepO.ext e.ff e.hh r1
    refine ⟨s1, by rw [s2]; exact r2, fun a ha => ?_⟩
    rw [s2] at ha
    exact ⟨keep_none e (r3 a ha).1 (RepO.feet r1 ha), (r3 a ha).2⟩
  | dct oa kvs =>
    obtain ⟨a, ob, vs, e1, e2, e3, e4, e5, e6⟩ := r
    exact ⟨a, ob, vs, e1, e.hh _ _ e2, keep_none e e3 (by rw [e2]; simp), e4, e5.mono e.ff, e6⟩
  | dbo kvs =>
    obtain ⟨a, ob, vs, e1, e2, e5⟩ := r
    exact ⟨a, ob, vs, e1, e2, e5.mono e.ff⟩
theorem RepE.feet_ext {x : En} {v : V} (r : RepE K B F H x v) (e : Same H H') : feetE H' x v = feetE H x v := by
  cases x with
  | tre t => exact (RepO.ext (Same.refl F) e r.1).2
  | _ => rfl
theorem RepE.feet_at {x : En} {v : V} {a : Addr} (r : RepE K B F H x v) (h : a ∈ feetE H x v) : H a ≠ none /\ F a = none /\ B.H0 a = none := by
  cases x with
  | val d => cases h
  | bor ds => cases h
  | acc ds =>
    obtain ⟨b, vs, rfl, e2, e3, e4, e5⟩ := r
    simp only [feetE, List.mem_singleton] at h
    subst h
    exact ⟨by rw [e2]; simp, e3, e4⟩
  | oac b dx C fs ds =>
    obtain ⟨vs, rfl, e2, el, e3, e4, e5⟩ := r
    simp only [feetE, List.mem_singleton] at h
    subst h
    exact ⟨by rw [e2]; simp, e3, e4⟩
  | tre t => exact ⟨RepO.feet r.1 h, r.2.2 a h⟩
  | dct oa kvs =>
    obtain ⟨b, ob, vs, rfl, e2, e3, e4, e5⟩ := r
    simp only [feetE, List.mem_singleton] at h
    subst h
    exact ⟨by rw [e2]; simp, e3, e4⟩
  | dbo kvs => cases h
theorem Rep.ext (r : Rep K B F σ H ρ) (e : Ext F H F' H') : Rep K B F' σ H' ρ := by
  refine ⟨r.ex.trans e, r.len, fun i x h => let ⟨v, h1, h2⟩ := r.ents i x h; ⟨v, h1, h2.ext e⟩, fun i j x y v w e1 e2 s1 s2 hne a ha hb => ?_⟩
  obtain ⟨v', q1, p1⟩ := r.ents i x e1
  rw [s1] at q1; cases q1
  obtain ⟨w', q2, p2⟩ := r.ents j y e2
  rw [s2] at q2; cases q2
  rw [p1.feet_ext e.hh] at ha
  rw [p2.feet_ext e.hh] at hb
  exact r.dj i j x y v w e1 e2 s1 s2 hne a ha hb
theorem Rep.fh (r : Rep K B F σ H ρ) : Same F H := r.ex.fh
theorem set_slot {α : Type} {l : List α} {i j : Nat} {x y : α} (h : (l.set i x)[j]? = some y) : (j = i /\ x = y /\ i < l.length) ∨ (j ≠ i /\ l[j]? = some y) := by
  by_cases hj : j = i
  · subst hj
    have hl : j < l.length := by
      have := (List.getElem?_eq_some_iff.mp h).1
      simpa using this
    rw [List.getElem?_set_self hl] at h
    cases h
    exact .inl ⟨rfl, rfl, hl⟩
  · rw [List.getElem?_set_ne (Ne.symm hj)] at h
    exact .inr ⟨hj, h⟩
theorem Rep.seto (r : Rep K B F σ H ρ) {i : Nat} {x : En} {v : V} (h : RepE K B F H x v) (hn : ∀ (j : Nat) y w, ρ[j]? = some (some y) -> σ[j]? = some (some w) -> j ≠ i -> ∀ a ∈ feetE H x v, a ∉ feetE H y w) : Rep K B F (σ.set i (some v)) H (ρ.set i (some x)) := by
  refine ⟨r.ex, by simp [r.len], fun j y e => ?_, fun j k y z u w e1 e2 s1 s2 hne a ha hb => ?_⟩
  · rcases set_slot e with ⟨rfl, q, hl⟩ | ⟨hj, e⟩
    · cases q
      exact ⟨v, List.getElem?_set_self (by rw [r.len]; exact hl), h⟩
    · obtain ⟨w, h1, h2⟩ := r.ents j y e
      exact ⟨w, by rw [List.getElem?_set_ne (Ne.symm hj)]; exact h1, h2⟩
  · rcases set_slot e1 with ⟨rfl, q1, _⟩ | ⟨hj, f1⟩ <;> rcases set_slot e2 with ⟨rfl, q2, _⟩ | ⟨hk, f2⟩
    · exact hne rfl
    · cases q1
      rcases set_slot s1 with ⟨_, p1, _⟩ | ⟨z, _⟩
      · cases p1
        rw [List.getElem?_set_ne (Ne.symm hk)] at s2
        exact hn k z w f2 s2 hk a ha hb
      · exact (z rfl).elim
    · cases q2
      rcases set_slot s2 with ⟨_, p2, _⟩ | ⟨z, _⟩
      · cases p2
        rw [List.getElem?_set_ne (Ne.symm hj)] at s1
        exact hn j y u f1 s1 hj a hb ha
      · exact (z rfl).elim
    · rw [List.getElem?_set_ne (Ne.symm hj)] at s1
      rw [List.getElem?_set_ne (Ne.symm hk)] at s2
      exact r.dj j k y z u w f1 f2 s1 s2 hne a ha hb
theorem Rep.setv (r : Rep K B F σ H ρ) {i : Nat} {d : D} {v : V} (h : Rp K F d v) : Rep K B F (σ.set i (some v)) H (ρ.set i (some (.val d))) :=
  r.seto (x := .val d) h fun _ _ _ _ _ _ a ha => by cases ha
theorem RepE.other {x : En} {v : V} {a : Addr} {o : HO} (r : RepE K B F H x v) (hn : a ∉ feetE H x v) (h0 : B.H0 a = none) : RepE K B F (upd H a o) x v /\ feetE (upd H a o) x v = feetE H x v := by
  cases x with
  | val d => exact ⟨r, rfl⟩
  | bor ds => exact ⟨r, rfl⟩
  | acc ds =>
    obtain ⟨b, vs, rfl, q2, q3, q4, q5⟩ := r
    have hb : b ≠ a := fun z => hn (by simp [feetE, z])
    exact ⟨⟨b, vs, rfl, by rw [upd_ne hb]; exact q2, q3, q4, q5⟩, rfl⟩
  | oac b dx C fs ds =>
    obtain ⟨vs, rfl, q2, ql, q3, q4, q5⟩ := r
    have hb : b ≠ a := fun z => hn (by simp [feetE, z])
    exact ⟨⟨vs, rfl, by rw [upd_ne hb]; exact q2, ql, q3, q4, q5⟩, rfl⟩
  | tre t =>
    obtain ⟨r1, r2, r3⟩ := r
    obtain ⟨s1, s2⟩ := RepO.other (o := o) r1 hn
    exact ⟨⟨s1, by rw [s2]; exact r2, fun b hb => r3 b (by rw [s2] at hb; exact hb)⟩, s2⟩
  | dct oa kvs =>
    obtain ⟨b, ob, vs, rfl, q2, q3, q4, q5⟩ := r
    have hb : b ≠ a := fun z => hn (by simp [feetE, z])
    exact ⟨⟨b, ob, vs, rfl, by rw [upd_ne hb]; exact q2, q3, q4, q5⟩, rfl⟩
  | dbo kvs => exact ⟨r, rfl⟩
theorem Rep.writeG (r : Rep K B F σ H ρ) {i : Nat} {x y : En} {v : V} {a : Addr} {o : HO} (hi : ρ[i]? = some (some x)) (hs : σ[i]? = some (some v)) (ha : a ∈ feetE H x v) (hy : RepE K B F (upd H a o) y v) (hsub : ∀ b ∈ feetE (upd H a o) y v, b ∈ feetE H x v) :
    Rep K B F σ (upd H a o) (ρ.set i (some y)) := by
  have hl : i < ρ.length := (List.getElem?_eq_some_iff.mp hi).1
  obtain ⟨v', hv', rx⟩ := r.ents i x hi
  rw [hs] at hv'; cases hv'
  obtain ⟨_, hf, h0⟩ := rx.feet_at ha
  have oth : ∀ {j : Nat} {z : En} {w : V}, ρ[j]? = some (some z) -> σ[j]? = some (some w) -> j ≠ i -> RepE K B F (upd H a o) z w /\ feetE (upd H a o) z w = feetE H z w := fun {j z w} e s hj => by
    obtain ⟨w', hw', rz⟩ := r.ents j z e
    rw [s] at hw'; cases hw'
    exact rz.other (fun hz => r.dj i j x z v w hi e hs s (Ne.symm hj) a ha hz) h0
  refine ⟨⟨r.ex.ff, fun b u e => ?_, fun b u e => ?_, r.ex.nw⟩, by simp [r.len], fun j z e => ?_, fun j k z w u t e1 e2 s1 s2 hne b hb hc => ?_⟩
  · rw [upd_ne (ne_of_none e h0)]; exact r.ex.hh b u e
  · rw [upd_ne (ne_of_none e hf)]; exact r.ex.fh b u e
  · rcases set_slot e with ⟨rfl, q, _⟩ | ⟨hj, e⟩
    · cases q; exact ⟨v, hs, hy⟩
    · obtain ⟨w, h1, _⟩ := r.ents j z e
      exact ⟨w, h1, (oth e h1 hj).1⟩
  · rcases set_slot e1 with ⟨rfl, q1, _⟩ | ⟨hj, f1⟩ <;> rcases set_slot e2 with ⟨rfl, q2, _⟩ | ⟨hk, f2⟩
    · exact hne rfl
    · cases q1
      rw [hs] at s1; cases s1
      rw [(oth f2 s2 hk).2] at hc
      exact r.dj _ k x w v t hi f2 hs s2 hne b (hsub b hb) hc
    · cases q2
      rw [hs] at s2; cases s2
      rw [(oth f1 s1 hj).2] at hb
      exact r.dj j _ z x u v f1 hi s1 hs hne b hb (hsub b hc)
    · rw [(oth f1 s1 hj).2] at hb
      rw [(oth f2 s2 hk).2] at hc
      exact r.dj j k z w u t f1 f2 s1 s2 hne b hb hc
theorem Rep.write (r : Rep K B F σ H ρ) {i : Nat} {x y : En} {a : Addr} {o : HO} (hi : ρ[i]? = some (some x)) (ho : x.own = true) (hs : σ[i]? = some (some (.ref a))) (hf : F a = none) (h0 : B.H0 a = none) (hy : RepE K B F (upd H a o) y (.ref a)) (hyo : y.own = true) :
    Rep K B F σ (upd H a o) (ρ.set i (some y)) :=
  r.writeG hi hs (by rw [feetE_own ho]; simp) hy fun b hb => by rw [feetE_own hyo] at hb; rw [feetE_own ho]; exact hb
theorem Rep.frzG (r : Rep K B F σ H ρ) {i : Nat} {x : En} {v : V} {d : D} (hi : ρ[i]? = some (some x)) (hs : σ[i]? = some (some v)) (hd : Rp K (addF F H (feetE H x v)) d v) : Rep K B (addF F H (feetE H x v)) σ H (ρ.set i (some (.val d))) := by
  obtain ⟨v', hv', rx⟩ := r.ents i x hi
  rw [hs] at hv'; cases hv'
  have sf : Same F (addF F H (feetE H x v)) := same_addF fun a ha => (rx.feet_at ha).2.1
  have non : ∀ {b : Addr}, F b = none -> b ∉ feetE H x v -> addF F H (feetE H x v) b = none := fun {b} h hn => by unfold addF; rw [if_neg hn]; exact h
  refine ⟨⟨r.ex.ff.trans sf, r.ex.hh, fun b u e => ?_, fun b e => ?_⟩, by simp [r.len], fun j z e => ?_, fun j k z w u t e1 e2 s1 s2 hne b hb hc => ?_⟩
  · unfold addF at e
    split at e
    · exact e
    · exact r.ex.fh b u e
  · unfold addF at e
    split at e
    · rename_i hb; exact .inr (rx.feet_at hb).2.2
    · exact r.ex.nw b e
  · rcases set_slot e with ⟨rfl, q, _⟩ | ⟨hj, e⟩
    · cases q; exact ⟨v, hs, hd⟩
    · obtain ⟨w, h1, h2⟩ := r.ents j z e
      refine ⟨w, h1, ?_⟩
      have hx : ∀ b ∈ feetE H z w, b ∉ feetE H x v := fun b hb hc => r.dj j i z x w v e hi h1 hs hj b hb hc
      cases z with
      | val d => exact Rp.mono sf h2
      | bor ds => obtain ⟨b, vs, q1, q2, q3⟩ := h2; exact ⟨b, vs, q1, q2, q3.mono sf⟩
      | acc ds =>
        obtain ⟨b, vs, rfl, q2, q3, q4, q5⟩ := h2
        exact ⟨b, vs, rfl, q2, non q3 (hx b (by simp [feetE])), q4, q5.mono sf⟩
      | oac b dx C fs ds =>
        obtain ⟨vs, rfl, q2, ql, q3, q4, q5⟩ := h2
        exact ⟨vs, rfl, q2, ql, non q3 (hx b (by simp [feetE])), q4, q5.mono sf⟩
      | tre t =>
        obtain ⟨r1, r2, r3⟩ := h2
        exact ⟨(RepO.ext sf (Same.refl H) r1).1, r2, fun b hb => ⟨non (r3 b hb).1 (hx b hb), (r3 b hb).2⟩⟩
      | dct oa kvs =>
        obtain ⟨b, ob, vs, rfl, q2, q3, q4, q5, q6⟩ := h2
        exact ⟨b, ob, vs, rfl, q2, non q3 (hx b (by simp [feetE])), q4, q5.mono sf, q6⟩
      | dbo kvs => obtain ⟨b, ob, vs, q1, q2, q3⟩ := h2; exact ⟨b, ob, vs, q1, q2, q3.mono sf⟩
  · rcases set_slot e1 with ⟨rfl, q1, _⟩ | ⟨hj, f1⟩
    · cases q1; cases hb
    · rcases set_slot e2 with ⟨rfl, q2, _⟩ | ⟨hk, f2⟩
      · cases q2; cases hc
      · exact r.dj j k z w u t f1 f2 s1 s2 hne b hb hc
def frzE (i : Nat) (ρ : EnvD) : EnvD := match ρ[i]? with
  | some (some (.acc ds)) => ρ.set i (some (.val (.lst ds)))
  | some (some (.oac _ _ C fs ds)) => ρ.set i (some (.val (.obj C fs ds)))
  | some (some (.tre t)) => ρ.set i (some (.val t.erase))
  | _ => ρ
theorem Rep.frz (r : Rep K B F σ H ρ) (i : Nat) : ∃ F', Same F F' /\ Rep K B F' σ H (frzE i ρ) := by
  unfold frzE
  split
  · rename_i ds hi
    obtain ⟨v, hs, rx⟩ := r.ents i _ hi
    have sf : Same F (addF F H (feetE H (.acc ds) v)) := same_addF fun a ha => (rx.feet_at ha).2.1
    refine ⟨_, sf, r.frzG hi hs ?_⟩
    obtain ⟨a, vs, rfl, e2, e3, e4, e5⟩ := rx
    exact ⟨a, vs, rfl, by unfold addF; rw [if_pos (by simp [feetE])]; exact e2, e5.mono sf⟩
  · rename_i a dx C fs ds hi
    obtain ⟨v, hs, rx⟩ := r.ents i _ hi
    have sf : Same F (addF F H (feetE H (.oac a dx C fs ds) v)) := same_addF fun b hb => (rx.feet_at hb).2.1
    refine ⟨_, sf, r.frzG hi hs ?_⟩
    obtain ⟨vs, rfl, e2, el, e3, e4, e5⟩ := rx
    exact ⟨a, dx, vs, rfl, by unfold addF; rw [if_pos (by simp [feetE])]; exact e2, el, e5.mono sf⟩
  · rename_i t hi
    obtain ⟨v, hs, rx⟩ := r.ents i _ hi
    have sf : Same F (addF F H (feetE H (.tre t) v)) := same_addF fun b hb => (rx.feet_at hb).2.1
    exact ⟨_, sf, r.frzG hi hs (RepO.fz sf rx.1 fun a ha => ha)⟩
  · exact ⟨F, Same.refl _, r⟩
end
abbrev Post (α : Type) := Hp -> Hp -> Hp -> Hp -> α -> V -> Prop
def lG {α : Type} (K : KW) (B : Bs) (post : Post α) (g : EnvD -> Option α) : TE := fun σ H Q =>
  ∃ F ρ x, Rep K B F σ H ρ /\ g ρ = some x /\ ∀ v F' H', Ext F H F' H' -> post F H F' H' x v -> Q v H'
def pE (K : KW) : Post D := fun _ _ F' _ d v => Rp K F' d v
def pR (K : KW) : Post D := fun _ _ F' H' d v => Rq K F' H' d v
def pA (K : KW) : Post (List D) := fun _ H F' H' ds v => ∃ a vs, v = .ref a /\ H a = none /\ H' a = some (.lst vs) /\ F' a = none /\ Rps K F' ds vs
def DE (X : Cx) (B : Bs) (e : Expr) (g : EnvD -> Option D) : Prop := PE X e (lG X.kw B (pE X.kw) g)
def DR (X : Cx) (B : Bs) (e : Expr) (g : EnvD -> Option D) : Prop := PE X e (lG X.kw B (pR X.kw) g)
def DA (X : Cx) (B : Bs) (e : Expr) (g : EnvD -> Option (List D)) : Prop := PE X e (lG X.kw B (pA X.kw) g)
def lT (K : KW) (B : Bs) (g : EnvD -> Option Bool) : TT := fun σ H Q => ∃ F ρ b, Rep K B F σ H ρ /\ g ρ = some b /\ ∀ F' H', Ext F H F' H' -> Q b H'
def DT (X : Cx) (B : Bs) (e : Expr) (g : EnvD -> Option Bool) : Prop := PT X e (lT X.kw B g)
def DW (X : Cx) (B : Bs) (e : Expr) (g : EnvD -> Option Bool) : Prop := PW X e (lT X.kw B g)
def lAs (K : KW) (B : Bs) (post : Post D) (g : EnvD -> Option (List D)) : TA := fun σ H Q =>
  ∃ F ρ ds, Rep K B F σ H ρ /\ g ρ = some ds /\ ∀ vs F' H', Ext F H F' H' -> Paired (fun d v => post F H F' H' d v) ds vs -> Q vs H'
def DAs (X : Cx) (B : Bs) (es : List Expr) (g : EnvD -> Option (List D)) : Prop := PA X es (lAs X.kw B (pE X.kw) g)
def DRs (X : Cx) (B : Bs) (es : List Expr) (g : EnvD -> Option (List D)) : Prop := PA X es (lAs X.kw B (pR X.kw) g)
section
variable {X : Cx} {B : Bs} {e a b c : Expr} {es : List Expr} {pos : Pos}
theorem pe_imp {t t' : TE} (h : PE X e t) (k : ∀ σ H Q, t' σ H Q -> t σ H Q) : PE X e t' := fun pins s σ H Q I q => h pins s σ H Q I (k σ H Q q)
theorem pt_imp {t t' : TT} (h : PT X e t) (k : ∀ σ H Q, t' σ H Q -> t σ H Q) : PT X e t' := fun pins s σ H Q I q => h pins s σ H Q I (k σ H Q q)
theorem pw_imp {t t' : TT} (h : PW X e t) (k : ∀ σ H Q, t' σ H Q -> t σ H Q) : PW X e t' := fun wh pins s σ H Q I q => h wh pins s σ H Q I (k σ H Q q)
theorem pa_imp {t t' : TA} (h : PA X es t) (k : ∀ σ H Q, t' σ H Q -> t σ H Q) : PA X es t' := fun po pins s σ H Q I q => h po pins s σ H Q I (k σ H Q q)
theorem ps_imp {st : Stmt} {t t' : TS} (h : PS X st t) (k : ∀ E σ H, t' E σ H -> t E σ H) : PS X st t' := fun pins s σ H E I q => h pins s σ H E I (k E σ H q)
theorem pss_imp {st : List Stmt} {t t' : TS} (h : PSs X st t) (k : ∀ E σ H, t' E σ H -> t E σ H) : PSs X st t' := fun pins s σ H E I q => h pins s σ H E I (k E σ H q)
theorem pi_imp {tg : Expr} {t t' : TI} (h : PI X tg e t) (k : ∀ σ H Q, t' σ H Q -> t σ H Q) : PI X tg e t' := fun pins s σ H Q I q => h pins s σ H Q I (k σ H Q q)
theorem DE.read {g : EnvD -> Option D} (h : DE X B e g) : DR X B e g :=
  pe_imp h fun σ H Q ⟨F, ρ, x, r, hg, k⟩ => ⟨F, ρ, x, r, hg, fun v F' H' e p => k v F' H' e (.inl p)⟩
def gFz (g : EnvD -> Option (List D)) : EnvD -> Option D := fun ρ => (g ρ).map D.lst
theorem DA.frz {g : EnvD -> Option (List D)} (h : DA X B e g) : DE X B e (gFz g) :=
  pe_imp h fun σ H Q ⟨F, ρ, x, r, hg, k⟩ => by
    unfold gFz at hg
    cases q : g ρ with
    | none => rw [q] at hg; cases hg
    | some ds =>
      rw [q] at hg; cases hg
      refine ⟨F, ρ, ds, r, q, fun v F' H' e p => ?_⟩
      obtain ⟨a, vs, rfl, p1, p2, p3, p4⟩ := p
      exact k _ (upd F' a (.lst vs)) H' (e.freeze p1 p3 p2) ⟨a, vs, rfl, upd_same, p4.mono (same_upd p3)⟩
theorem DA.read {g : EnvD -> Option (List D)} (h : DA X B e g) : DR X B e (gFz g) := h.frz.read
def gv (i : Nat) : EnvD -> Option D := fun ρ => match ρ[i]? with
  | some (some (.val d)) => some d
  | _ => none
def gr (i : Nat) : EnvD -> Option D := fun ρ => match ρ[i]? with
  | some (some (.val d)) => some d
  | some (some (.acc ds)) => some (.lst ds)
  | some (some (.bor ds)) => some (.lst ds)
  | _ => none
theorem de_var (i : Nat) {x : Str} (h : PE X (.Name x pos) (tVar i)) : DE X B (.Name x pos) (gv i) :=
  pe_imp h fun σ H Q ⟨F, ρ, d, r, hg, k⟩ => by
    unfold gv at hg
    split at hg
    · rename_i d' e
      cases hg
      obtain ⟨v, h1, h2⟩ := r.ents i _ e
      exact ⟨v, h1, k v F H (.refl r.fh) h2⟩
    · cases hg
theorem dr_var (i : Nat) {x : Str} (h : PE X (.Name x pos) (tVar i)) : DR X B (.Name x pos) (gr i) :=
  pe_imp h fun σ H Q ⟨F, ρ, d, r, hg, k⟩ => by
    unfold gr at hg
    split at hg
    · rename_i d' e
      cases hg
      obtain ⟨v, h1, h2⟩ := r.ents i _ e
      exact ⟨v, h1, k v F H (.refl r.fh) (.inl h2)⟩
    · rename_i ds e
      cases hg
      obtain ⟨v, h1, a, vs, e1, e2, e3, e4, e5⟩ := r.ents i _ e
      exact ⟨v, h1, k v F H (.refl r.fh) (.inr ⟨a, vs, ds, rfl, e1, e2, e5⟩)⟩
    · rename_i ds e
      cases hg
      obtain ⟨v, h1, a, vs, e1, e2, e5⟩ := r.ents i _ e
      exact ⟨v, h1, k v F H (.refl r.fh) (.inr ⟨a, vs, ds, rfl, e1, r.ex.hh _ _ e2, e5⟩)⟩
    · cases hg
def gc (d : D) : EnvD -> Option D := fun _ => some d
theorem de_con {v : V} {d : D} (h : PE X e (tC v)) (r : ∀ F, Rp X.kw F d v) : DE X B e (gc d) :=
  pe_imp h fun σ H Q ⟨F, ρ, d', rr, hg, k⟩ => by cases hg; exact k v F H (.refl rr.fh) (r F)
theorem de_int {i : Int} {j} : DE X B (.Constant (.int i) j pos) (gc (.int i)) := de_con pe_int fun _ => rfl
theorem de_bl {i : Bool} {j} : DE X B (.Constant (.bool i) j pos) (gc (.bl i)) := de_con pe_bl fun _ => rfl
theorem de_str {x : Str} {j} : DE X B (.Constant (.str x) j pos) (gc (.str x)) := de_con pe_str fun _ => rfl
theorem de_glob {x : Str} {v : V} {u : Value} {d : D} (hg : Gl X x) (hm : X.mg x = some u) (r : RelV v u) (rd : ∀ F, Rp X.kw F d v) (hd : (x == ("__debug__" : Str)) = false := by decide) : DE X B (.Name x pos) (gc d) :=
  pe_imp (pe_glob hg hm r hd) fun σ H Q ⟨F, ρ, d', rr, hg, k⟩ => by cases hg; exact k v F H (.refl rr.fh) (rd F)
def g2 {γ : Type} (f : D -> D -> Option γ) (ga gb : EnvD -> Option D) : EnvD -> Option γ := fun ρ => (ga ρ).bind fun x => (gb ρ).bind fun y => f x y
def OkR {γ : Type} (K : KW) (r : R2) (pc : Post γ) (f : D -> D -> Option γ) : Prop :=
  ∀ F H x y dx dy d Q, Same F H -> Rq K F H dx x -> Rq K F H dy y -> f dx dy = some d -> (∀ v F' H', Ext F H F' H' -> pc F H F' H' d v -> Q v H') -> r x y H Q
def Back {γ : Type} (pc : Post γ) : Prop := ∀ F H F1 H1 F' H' d v, Ext F H F1 H1 -> pc F1 H1 F' H' d v -> pc F H F' H' d v
theorem back_E {K : KW} : Back (pE K) := fun _ _ _ _ _ _ _ _ _ h => h
theorem back_A {K : KW} : Back (pA K) := fun _ _ _ _ _ _ _ _ e ⟨a, vs, h1, h2, h⟩ => ⟨a, vs, h1, e.hh.free h2, h⟩
theorem op2 {γ : Type} {r : R2} {pc : Post γ} {f : D -> D -> Option γ} (hb : Back pc) (hr : OkR X.kw r pc f) {ga gb : EnvD -> Option D} {σ : St} {H : Hp} {Q : VK} (h : lG X.kw B pc (g2 f ga gb) σ H Q) :
    tOp r (lG X.kw B (pR X.kw) ga) (lG X.kw B (pR X.kw) gb) σ H Q := by
  obtain ⟨F, ρ, d, rr, hg, k⟩ := h
  unfold g2 at hg
  cases qa : ga ρ with
  | none => rw [qa] at hg; cases hg
  | some dx =>
    cases qb : gb ρ with
    | none => rw [qa, qb] at hg; cases hg
    | some dy =>
      rw [qa, qb] at hg
      refine ⟨F, ρ, dx, rr, qa, fun x F1 H1 e1 p1 => ⟨F1, ρ, dy, rr.ext e1, qb, fun y F2 H2 e2 p2 => ?_⟩⟩
      exact hr F2 H2 x y dx dy d Q e2.fh (p1.mono e2.ff e2.hh) p2 hg fun v F' H' e p => k v F' H' (e1.trans (e2.trans e)) (hb _ _ _ _ _ _ _ _ (e1.trans e2) p)
theorem de_op {op : Operator} {r : R2} {f : D -> D -> Option D} {ga gb : EnvD -> Option D} (ho : OpR X (binaryOp op) r) (hr : OkR X.kw r (pE X.kw) f) (ha : DR X B a ga) (hb : DR X B b gb) : DE X B (.BinOp a op b pos) (g2 f ga gb) :=
  pe_imp (pe_op ho ha hb) fun σ H Q h => op2 back_E hr h
theorem da_op {op : Operator} {r : R2} {f : D -> D -> Option (List D)} {ga gb : EnvD -> Option D} (ho : OpR X (binaryOp op) r) (hr : OkR X.kw r (pA X.kw) f) (ha : DR X B a ga) (hb : DR X B b gb) : DA X B (.BinOp a op b pos) (g2 f ga gb) :=
  pe_imp (pe_op ho ha hb) fun σ H Q h => op2 back_A hr h
theorem de_cmp {op : CmpOp} {r : R2} {f : D -> D -> Option D} {ga gb : EnvD -> Option D} (ho : OpR X (compareOp op) r) (hr : OkR X.kw r (pE X.kw) f) (ha : DR X B a ga) (hb : DR X B b gb) (hm : behindInMarks op b = false) : DE X B (.Compare a [op] [b] pos) (g2 f ga gb) :=
  pe_imp (pe_cmpR ho ha hb hm) fun σ H Q h => op2 back_E hr h
theorem de_ix {r : R2} {f : D -> D -> Option D} {ga gb : EnvD -> Option D} (ho : IxR X r) (hr : OkR X.kw r (pE X.kw) f) (ha : DR X B a ga) (hb : DR X B b gb) (hs : PlainIx b) : DE X B (.Subscript a b pos) (g2 f ga gb) :=
  pe_imp (pe_ix ho ha hb hs) fun σ H Q h => op2 back_E hr h
def fI (C : Int -> Int -> Bool) (f : Int -> Int -> D) : D -> D -> Option D
  | .int i, .int j => if C i j then some (f i j) else none
  | _, _ => none
theorem okI {K : KW} {C : Int -> Int -> Prop} {p : Int -> Int -> Bool} {f : Int -> Int -> D} {g : Int -> Int -> V} (hp : ∀ i j, p i j = true -> C i j) (hf : ∀ i j F, Rp K F (f i j) (g i j)) : OkR K (rI C g) (pE K) (fI p f) := by
  intro F H x y dx dy d Q s rx ry e k
  unfold fI at e
  split at e
  · rename_i i j
    split at e
    · rename_i hc
      cases e
      exact ⟨i, j, rx.int, ry.int, hp i j hc, k _ F H (.refl s) (hf i j F)⟩
    · cases e
  · cases e
theorem okI0 {K : KW} {f : Int -> Int -> D} {g : Int -> Int -> V} (hf : ∀ i j F, Rp K F (f i j) (g i j)) : OkR K (rI0 g) (pE K) (fI (fun _ _ => true) f) := by
  intro F H x y dx dy d Q s rx ry e k
  unfold fI at e
  split at e
  · rename_i i j
    rw [if_pos rfl] at e
    cases e
    exact ⟨i, j, rx.int, ry.int, k _ F H (.refl s) (hf i j F)⟩
  · cases e
def LIM : Int := 18446744073709551616
def fMul := fI (fun i j => (decide (-LIM < i) && decide (i < LIM)) || (decide (-LIM < j) && decide (j < LIM))) fun i j => .int (i * j)
def fDiv := fI (fun _ j => decide (0 < j) && decide (j < 1073741824)) fun i j => .int (i / j)
def fMod := fI (fun _ j => decide (0 < j)) fun i j => .int (i % j)
def fShr := fI (fun _ j => decide (0 <= j)) fun i j => .int (i / 2 ^ j.toNat)
def fAnd := fI (fun _ _ => true) fun i j => .int (Builtin.bitAnd i j)
def fPow := fI (fun i j => decide (0 <= j) && decide (j <= 1000000) && decide (i.natAbs < 18446744073709551616)) fun i j => .int (i ^ j.toNat)
variable {ga gb : EnvD -> Option D}
theorem de_mul (ha : DR X B a ga) (hb : DR X B b gb) : DE X B (.BinOp a .Mult b pos) (g2 fMul ga gb) := de_op op_mul (okI (fun i j h => by
  simp only [Bool.or_eq_true, Bool.and_eq_true, decide_eq_true_eq] at h
  unfold LIM at h
  rcases h with ⟨h1, h2⟩ | ⟨h1, h2⟩
  · exact .inl ⟨by omega, by omega⟩
  · exact .inr ⟨by omega, by omega⟩) fun _ _ _ => rfl) ha hb
theorem de_div (ha : DR X B a ga) (hb : DR X B b gb) : DE X B (.BinOp a .FloorDiv b pos) (g2 fDiv ga gb) := de_op op_fdiv (okI (fun i j h => by
  simp only [Bool.and_eq_true, decide_eq_true_eq] at h
  exact h) fun _ _ _ => rfl) ha hb
theorem de_mod (ha : DR X B a ga) (hb : DR X B b gb) : DE X B (.BinOp a .Mod b pos) (g2 fMod ga gb) := de_op op_mod (okI (fun i j h => by
  simp only [decide_eq_true_eq] at h
  exact h) fun _ _ _ => rfl) ha hb
theorem de_shr (ha : DR X B a ga) (hb : DR X B b gb) : DE X B (.BinOp a .RShift b pos) (g2 fShr ga gb) := de_op op_shr (okI (fun i j h => by
  simp only [decide_eq_true_eq] at h
  exact h) fun _ _ _ => rfl) ha hb
theorem de_and' (ha : DR X B a ga) (hb : DR X B b gb) : DE X B (.BinOp a .BitAnd b pos) (g2 fAnd ga gb) := de_op op_and (okI0 fun _ _ _ => rfl) ha hb
theorem de_pow (ha : DR X B a ga) (hb : DR X B b gb) : DE X B (.BinOp a .Pow b pos) (g2 fPow ga gb) := de_op op_pow (okI (fun i j h => by
  simp only [Bool.and_eq_true, decide_eq_true_eq] at h
  exact ⟨h.1.1, h.1.2, by have := h.2; omega⟩) fun _ _ _ => rfl) ha hb
def fLt := fI (fun _ _ => true) fun i j => .bl (decide (i < j))
def fLe := fI (fun _ _ => true) fun i j => .bl (decide (i <= j))
def fGt := fI (fun _ _ => true) fun i j => .bl (decide (j < i))
theorem ok_lt {K : KW} : OkR K (rI0 fun i j => .bl (decide (i < j))) (pE K) fLt := okI0 fun _ _ _ => rfl
theorem ok_le {K : KW} : OkR K (rI0 fun i j => .bl (decide (i <= j))) (pE K) fLe := okI0 fun _ _ _ => rfl
theorem ok_gt {K : KW} : OkR K (rI0 fun i j => .bl (decide (j < i))) (pE K) fGt := okI0 fun _ _ _ => rfl
def TOP : Nat := 1000000
theorem top_line {n : Nat} (h : n <= TOP) : n <= sizeLine := Nat.le_trans h (by decide)
theorem top_line' {n : Nat} (h : n <= TOP) : n < sizeLine := Nat.lt_of_le_of_lt h (by decide)
def fIx : D -> D -> Option D
  | .lst xs, .int i => atI xs i
  | .tup xs, .int i => atI xs i
  | .scr ns, .int i => (atI ns i).map D.int
  | _, _ => none
theorem atI_rp {K : KW} {F : Hp} {ds : List D} {vs : List V} {i : Int} {d : D} (r : Rps K F ds vs) (h : atI ds i = some d) : ∃ v, atI vs i = some v /\ Rp K F d v := by
  unfold atI at h ⊢
  rw [<- r.length]
  cases q : ixN ds.length i with
  | none => rw [q] at h; cases h
  | some j => rw [q] at h; exact r.get h
theorem ok_ix {K : KW} : OkR K (rIx K) (pE K) fIx := by
  intro F H x y dx dy d Q s rx ry e k
  unfold fIx at e
  split at e
  · rename_i xs i
    obtain ⟨p, vs, rfl, h1, h2⟩ := rx.lst s
    obtain ⟨v, h3, h4⟩ := atI_rp h2 e
    exact .inl ⟨p, vs, i, v, rfl, ry.int, .of h1, h3, k _ F H (.refl s) h4⟩
  · rename_i xs i
    obtain ⟨p, vs, rfl, h1, h2⟩ := rx.tup s
    obtain ⟨v, h3, h4⟩ := atI_rp h2 e
    exact .inr (.inl ⟨p, vs, i, v, rfl, ry.int, .of h1, h3, k _ F H (.refl s) h4⟩)
  · rename_i ns i
    obtain ⟨p, rfl, h1⟩ := rx.scr s
    cases q : atI ns i with
    | none => rw [q] at e; cases e
    | some n =>
      rw [q] at e
      cases e
      refine .inl ⟨p, _, i, .int n, rfl, ry.int, h1, ?_, k _ F H (.refl s) rfl⟩
      unfold atI at q ⊢
      rw [List.length_map]
      cases q' : ixN ns.length i with
      | none => rw [q'] at q; cases q
      | some j =>
        rw [q'] at q
        have q : ns[j]? = some n := q
        show (ns.map V.int)[j]? = some (.int n)
        rw [List.getElem?_map, q]; rfl
  · cases e
end
mutual
def toP : D -> PyData
  | .non => .none
  | .bl b => .bool b
  | .int i => .int i
  | .str x => .str x
  | .lst ds => .list (toPs ds)
  | .tup ds => .tuple (toPs ds)
  | .scr ns => .list (ns.map PyData.int)
  | .obj _ _ _ => .dict []
def toPs : List D -> List PyData
  | [] => []
  | d :: ds => toP d :: toPs ds
end
section
variable {X : Cx} {pins : List (Addr × Obj)} {σ : St} {F H : Hp} {s : Shared}
theorem readsInts {h : Heap} : ∀ (ns : List Int) {us : List Value}, Vals (ns.map V.int) us -> ∃ as, ReadsAll h us (ns.map PyData.int) as
  | [], _, .nil => ⟨_, .nil⟩
  | n :: ns, _, .cons r t => by
    obtain ⟨t', rfl⟩ := r
    obtain ⟨as, q⟩ := readsInts ns t
    exact ⟨_, .cons (.int n t') q⟩
mutual
theorem Rp.reads (I : Inv X pins σ H s) (fh : Same F H) : ∀ (d : D) {v : V} {u : Value}, (toP d).canLay0 = true -> Rp X.kw F d v -> RelV v u -> ∃ as, Reads s.heap u (toP d) as
  | .non, _, _, _, h, r => by subst h; cases r; exact ⟨_, .none⟩
  | .bl b, _, _, _, h, r => by subst h; cases r; exact ⟨_, .bool b⟩
  | .int i, _, _, _, h, r => by subst h; obtain ⟨t, rfl⟩ := r; exact ⟨_, .int i t⟩
  | .str x, _, _, _, h, r => by subst h; obtain ⟨t, rfl⟩ := r; exact ⟨_, .str x t⟩
  | .lst ds, _, _, c, ⟨a, vs, e, q, h⟩, r => by
    subst e; cases r
    obtain ⟨z, its, n, rv, e⟩ := (show ObjOk X.prog X.w H s.heap a (.lst vs) from I.hok a _ (fh _ _ q))
    obtain ⟨as, t⟩ := Rps.reads I fh ds (show PyData.canLayAll0 (toPs ds) = true from c) h rv
    exact ⟨_, .list e rfl rfl (by simpa using t)⟩
  | .tup ds, _, _, c, ⟨a, vs, e, q, h⟩, r => by
    subst e; cases r
    obtain ⟨z, its, rv, o, e, hc, n, hd⟩ := (show ObjOk X.prog X.w H s.heap a (.tup vs) from I.hok a _ (fh _ _ q))
    obtain ⟨as, t⟩ := Rps.reads I fh ds (show PyData.canLayAll0 (toPs ds) = true from c) h rv
    exact ⟨_, .tuple e hc hd (by simpa using t)⟩
  | .scr ns, _, _, c, ⟨a, e, q⟩, r => by
    subst e; cases r
    obtain ⟨its, rv, ⟨o, n, e, hc, _, hd⟩, _⟩ := I.list (fh.seq q)
    obtain ⟨as, t⟩ := readsInts (h := s.heap) ns rv
    exact ⟨_, .list e hc hd (by simpa using t)⟩
  | .obj _ _ _, _, _, c, _, _ => by cases c
theorem Rps.reads (I : Inv X pins σ H s) (fh : Same F H) : ∀ (ds : List D) {vs : List V} {us : List Value}, PyData.canLayAll0 (toPs ds) = true -> Rps X.kw F ds vs -> Vals vs us -> ∃ as, ReadsAll s.heap us (toPs ds) as
  | [], _, _, _, h, r => by subst h; cases r; exact ⟨_, .nil⟩
  | d :: ds, _, _, c, ⟨v, w, e, h, t⟩, r => by
    subst e
    cases r with
    | cons r rr =>
      have c' : ((toP d).canLay0 && PyData.canLayAll0 (toPs ds)) = true := c
      obtain ⟨c1, c2⟩ := Bool.and_eq_true_iff.mp c'
      obtain ⟨as, q⟩ := Rp.reads I fh d c1 h r
      obtain ⟨bs, p⟩ := Rps.reads I fh ds c2 t rr
      exact ⟨_, .cons q p⟩
end
theorem Rq.reads (I : Inv X pins σ H s) (fh : Same F H) {d : D} {v : V} {u : Value} (c : (toP d).canLay0 = true) (h : Rq X.kw F H d v) (r : RelV v u) : ∃ as, Reads s.heap u (toP d) as := by
  rcases h with h | ⟨a, vs, ds, rfl, rfl, e, h⟩
  · exact h.reads I fh d c r
  · cases r
    obtain ⟨z, its, n, rv, e⟩ := (show ObjOk X.prog X.w H s.heap a (.lst vs) from I.hok a _ e)
    obtain ⟨as, t⟩ := Rps.reads I fh ds (show PyData.canLayAll0 (toPs ds) = true from c) h rv
    exact ⟨_, .list e rfl rfl (by simpa using t)⟩
end
def eqOk (d : D) : Bool := SeqAt.shaped (toP d)
def eqD (d d' : D) : Bool := PyData.eqv (toP d) (toP d')
def rEqD (K : KW) (neg : Bool) : R2 := fun x y H Q => ∃ F d d', Same F H /\ Rq K F H d x /\ Rq K F H d' y /\ eqOk d = true /\ eqOk d' = true /\ Q (.bl (if neg then !eqD d d' else eqD d d')) H
section
variable {X : Cx} {B : Bs} {e a b c : Expr} {es : List Expr} {pos : Pos} {ga gb : EnvD -> Option D}
theorem op_eqD (hu : X.A.units + 64 < cLine) : OpR X (compareOp .Eq) (rEqD X.kw false) := by
  intro pins s σ H x y v u Q I rx ry ⟨F, d, d', fh, h1, h2, o1, o2, q⟩
  obtain ⟨as, ra⟩ := h1.reads I fh (SeqAt.canLay_of_shaped o1) rx
  obtain ⟨bs, rb⟩ := h2.reads I fh (SeqAt.canLay_of_shaped o2) ry
  exact SeqAt.compareEq_shaped ra rb o1 o2 hu ⟨.bl (eqD d d'), H, I, rfl, q⟩
theorem op_neD (hu : X.A.units + 64 < cLine) : OpR X (compareOp .NotEq) (rEqD X.kw true) := by
  intro pins s σ H x y v u Q I rx ry ⟨F, d, d', fh, h1, h2, o1, o2, q⟩
  obtain ⟨as, ra⟩ := h1.reads I fh (SeqAt.canLay_of_shaped o1) rx
  obtain ⟨bs, rb⟩ := h2.reads I fh (SeqAt.canLay_of_shaped o2) ry
  exact SeqAt.compareNe_shaped ra rb o1 o2 hu ⟨.bl (!eqD d d'), H, I, rfl, q⟩
def fEq (neg : Bool) : D -> D -> Option D := fun x y => if eqOk x && eqOk y then some (.bl (if neg then !eqD x y else eqD x y)) else none
theorem ok_eq {K : KW} {neg : Bool} : OkR K (rEqD K neg) (pE K) (fEq neg) := by
  intro F H x y dx dy d Q s rx ry e k
  unfold fEq at e
  split at e
  · rename_i hc
    cases e
    obtain ⟨h1, h2⟩ := Bool.and_eq_true_iff.mp hc
    exact ⟨F, dx, dy, s, rx, ry, h1, h2, k _ F H (.refl s) rfl⟩
  · cases e
def asB : D -> Option Bool
  | .bl b => some b
  | _ => none
def truD : D -> Option Bool
  | .non => some false
  | .bl b => some b
  | .int i => some (i != 0)
  | .str x => if x.length <= TOP then some ((x.length : Int) != 0) else none
  | .lst ds => some (!ds.isEmpty)
  | .tup ds => some (!ds.isEmpty)
  | .scr ns => some (!ns.isEmpty)
  | .obj _ _ _ => none
theorem isEmpty_rps {K : KW} {F : Hp} {ds : List D} {vs : List V} (r : Rps K F ds vs) : ds.isEmpty = vs.isEmpty := by
  have := r.length
  cases ds <;> cases vs <;> simp_all
theorem tru_rq {K : KW} {F H : Hp} (s : Same F H) {d : D} {v : V} {b : Bool} (r : Rq K F H d v) (h : truD d = some b) : TruV K v H b := by
  cases d with
  | non => cases r.non; cases h; rfl
  | bl x => cases r.bl; cases h; rfl
  | int x => cases r.int; cases h; rfl
  | str x =>
    cases r.str
    have h : (if x.length <= TOP then some ((x.length : Int) != 0) else none) = some b := h
    split at h
    · rename_i hc; cases h; exact ⟨top_line hc, rfl⟩
    · cases h
  | lst ds => obtain ⟨a, vs, rfl, q, t⟩ := r.lst s; cases h; exact .inl ⟨vs, .of q, by rw [isEmpty_rps t]⟩
  | tup ds => obtain ⟨a, vs, rfl, q, t⟩ := r.tup s; cases h; exact .inr (.inl ⟨vs, .of q, by rw [isEmpty_rps t]⟩)
  | scr ns => obtain ⟨a, rfl, q⟩ := r.scr s; cases h; exact .inl ⟨_, q, by simp⟩
  | obj C f ds => cases h
def gt (g : EnvD -> Option D) : EnvD -> Option Bool := fun ρ => (g ρ).bind truD
def gb' (g : EnvD -> Option D) : EnvD -> Option Bool := fun ρ => (g ρ).bind asB
theorem dt_truth {g : EnvD -> Option D} (ha : DR X B a g) (he : ∀ whole, isTrue a X.env whole = (do let v <- whole; standAt a.pos; holding [v] (truthy v))) : DT X B a (gt g) :=
  pt_imp (pt_truth ha he) fun σ H Q ⟨F, ρ, b, r, hg, k⟩ => by
    unfold gt at hg
    cases q : g ρ with
    | none => rw [q] at hg; cases hg
    | some d =>
      rw [q] at hg
      exact ⟨F, ρ, d, r, q, fun v F' H' e p => ⟨b, tru_rq e.fh p hg, k F' H' e⟩⟩
theorem dt_cmp {op : CmpOp} {r : R2} {f : D -> D -> Option D} (ho : OpR X (compareOp op) r) (hr : OkR X.kw r (pE X.kw) f) (ha : DR X B a ga) (hb : DR X B b gb) (hm : behindInMarks op b = false) : DT X B (.Compare a [op] [b] pos) (gb' (g2 f ga gb)) :=
  pt_imp (pt_cmpR ho ha hb hm) fun σ H Q ⟨F, ρ, c, rr, hg, k⟩ => by
    unfold gb' at hg
    cases q : g2 f ga gb ρ with
    | none => rw [q] at hg; cases hg
    | some d =>
      rw [q] at hg
      refine op2 back_E hr ⟨F, ρ, d, rr, q, fun v F' H' e p => ?_⟩
      cases d with
      | bl y => cases hg; exact ⟨c, p, k F' H' e⟩
      | _ => cases hg
def gAnd (ga gb : EnvD -> Option Bool) : EnvD -> Option Bool := fun ρ => (ga ρ).bind fun x => if x then gb ρ else some false
def gOr (ga gb : EnvD -> Option Bool) : EnvD -> Option Bool := fun ρ => (ga ρ).bind fun x => if x then some true else gb ρ
def gNot (ga : EnvD -> Option Bool) : EnvD -> Option Bool := fun ρ => (ga ρ).map fun x => !x
variable {ta tb : EnvD -> Option Bool} {rest : List Expr}
theorem dw_and1 (ha : DT X B a ta) : DW X B (.BoolOp .And [a] pos) ta := pw_and1 ha
theorem dw_or1 (ha : DT X B a ta) : DW X B (.BoolOp .Or [a] pos) ta := pw_or1 ha
theorem dw_and (ha : DT X B a ta) (hb : DW X B (.BoolOp .And (b :: rest) pos) tb) : DW X B (.BoolOp .And (a :: b :: rest) pos) (gAnd ta tb) :=
  pw_imp (pw_and ha hb) fun σ H Q ⟨F, ρ, c, r, hg, k⟩ => by
    unfold gAnd at hg
    cases q : ta ρ with
    | none => rw [q] at hg; cases hg
    | some x =>
      rw [q] at hg
      refine ⟨F, ρ, x, r, q, fun F1 H1 e1 => ?_⟩
      cases x with
      | true => exact iteT ⟨F1, ρ, c, r.ext e1, hg, fun F2 H2 e2 => k F2 H2 (e1.trans e2)⟩
      | false => cases hg; exact iteF (k F1 H1 e1)
theorem dw_or (ha : DT X B a ta) (hb : DW X B (.BoolOp .Or (b :: rest) pos) tb) : DW X B (.BoolOp .Or (a :: b :: rest) pos) (gOr ta tb) :=
  pw_imp (pw_or ha hb) fun σ H Q ⟨F, ρ, c, r, hg, k⟩ => by
    unfold gOr at hg
    cases q : ta ρ with
    | none => rw [q] at hg; cases hg
    | some x =>
      rw [q] at hg
      refine ⟨F, ρ, x, r, q, fun F1 H1 e1 => ?_⟩
      cases x with
      | true => cases hg; exact iteT (k F1 H1 e1)
      | false => exact iteF ⟨F1, ρ, c, r.ext e1, hg, fun F2 H2 e2 => k F2 H2 (e1.trans e2)⟩
theorem dt_w (h : DW X B a ta) : DT X B a ta := PW.pt h
theorem dt_not (ha : DT X B a ta) : DT X B (.UnaryOp .Not a pos) (gNot ta) :=
  pt_imp (pt_not ha) fun σ H Q ⟨F, ρ, c, r, hg, k⟩ => by
    unfold gNot at hg
    cases q : ta ρ with
    | none => rw [q] at hg; cases hg
    | some x => rw [q] at hg; cases hg; exact ⟨F, ρ, x, r, q, fun F1 H1 e1 => k F1 H1 e1⟩
def gAndV (ga gb : EnvD -> Option D) : EnvD -> Option D := fun ρ => ((ga ρ).bind asB).bind fun x => if x then gb ρ else some (.bl false)
theorem asB_some {d : D} {b : Bool} (h : asB d = some b) : d = .bl b := by cases d <;> cases h; rfl
theorem bindB {g : EnvD -> Option D} {ρ : EnvD} {α : Type} {f : Bool -> Option α} {y : α} (h : ((g ρ).bind asB).bind f = some y) : ∃ b, g ρ = some (.bl b) /\ f b = some y := by
  cases q : g ρ with
  | none => rw [q] at h; cases h
  | some d =>
    rw [q] at h
    cases q2 : asB d with
    | none => rw [show (some d).bind asB = asB d from rfl, q2] at h; cases h
    | some b => rw [show (some d).bind asB = asB d from rfl, q2] at h; exact ⟨b, by rw [asB_some q2], h⟩
theorem de_one {op} (h : DE X B a ga) : DE X B (.BoolOp op [a] pos) ga := pe_one h
theorem de_andv (ha : DE X B a ga) (hb : DE X B (.BoolOp .And (b :: rest) pos) gb) : DE X B (.BoolOp .And (a :: b :: rest) pos) (gAndV ga gb) :=
  pe_imp (pe_and ha hb) fun σ H Q ⟨F, ρ, d, r, hg, k⟩ => by
    obtain ⟨x, q, hg⟩ := bindB hg
    refine ⟨F, ρ, _, r, q, fun v F1 H1 e1 p1 => ⟨x, p1, ?_⟩⟩
    cases x with
    | true => exact iteT ⟨F1, ρ, d, r.ext e1, hg, fun v F2 H2 e2 p2 => k v F2 H2 (e1.trans e2) p2⟩
    | false => cases hg; exact iteF (k _ F1 H1 e1 rfl)
def gIf (t : EnvD -> Option Bool) (ga gb : EnvD -> Option D) : EnvD -> Option D := fun ρ => (t ρ).bind fun x => if x then ga ρ else gb ρ
theorem de_if (ht : DT X B c ta) (ha : DE X B a ga) (hb : DE X B b gb) : DE X B (.IfExp c a b pos) (gIf ta ga gb) :=
  pe_imp (pe_ifExp ht ha hb) fun σ H Q ⟨F, ρ, d, r, hg, k⟩ => by
    unfold gIf at hg
    cases q : ta ρ with
    | none => rw [q] at hg; cases hg
    | some x =>
      rw [q] at hg
      refine ⟨F, ρ, x, r, q, fun F1 H1 e1 => ?_⟩
      cases x with
      | true => exact iteT ⟨F1, ρ, d, r.ext e1, hg, fun v F2 H2 e2 p2 => k v F2 H2 (e1.trans e2) p2⟩
      | false => exact iteF ⟨F1, ρ, d, r.ext e1, hg, fun v F2 H2 e2 p2 => k v F2 H2 (e1.trans e2) p2⟩
end
section
variable {X : Cx} {B : Bs} {e a b c : Expr} {es : List Expr} {pos : Pos} {ga gb gc' : EnvD -> Option D}
def g3 (f f' : D -> D -> Option D) (ga gb gc : EnvD -> Option D) : EnvD -> Option D := fun ρ =>
  (ga ρ).bind fun x => (gb ρ).bind fun y => ((f x y).bind asB).bind fun k => if k then (gc ρ).bind fun z => f' y z else some (.bl false)
theorem chain_ok {r r' : R2} {f f' : D -> D -> Option D} (hr : OkR X.kw r (pE X.kw) f) (hr' : OkR X.kw r' (pE X.kw) f') {σ : St} {H : Hp} {Q : VK} (h : lG X.kw B (pE X.kw) (g3 f f' ga gb gc') σ H Q) :
    tChain r r' (lG X.kw B (pR X.kw) ga) (lG X.kw B (pR X.kw) gb) (lG X.kw B (pR X.kw) gc') σ H Q := by
  obtain ⟨F, ρ, d, rr, hg, k⟩ := h
  unfold g3 at hg
  cases qa : ga ρ with
  | none => rw [qa] at hg; cases hg
  | some dx =>
    cases qb : gb ρ with
    | none => rw [qa, qb] at hg; cases hg
    | some dy =>
      rw [qa, qb] at hg
      have hg : ((f dx dy).bind asB).bind (fun k => if k then (gc' ρ).bind fun z => f' dy z else some (.bl false)) = some d := hg
      cases qf : f dx dy with
      | none => rw [qf] at hg; cases hg
      | some z =>
        rw [qf] at hg
        cases qz : asB z with
        | none => rw [show (some z).bind asB = asB z from rfl, qz] at hg; cases hg
        | some kk =>
          rw [show (some z).bind asB = asB z from rfl, qz] at hg
          rw [asB_some qz] at qf
          refine ⟨F, ρ, dx, rr, qa, fun x F1 H1 e1 p1 => ⟨F1, ρ, dy, rr.ext e1, qb, fun y F2 H2 e2 p2 => ?_⟩⟩
          refine hr F2 H2 x y dx dy _ _ e2.fh (p1.mono e2.ff e2.hh) p2 qf fun v F3 H3 e3 p3 => ⟨kk, p3, ?_⟩
          have hg : (if kk = true then (gc' ρ).bind fun z => f' dy z else some (.bl false)) = some d := hg
          cases kk with
          | false => rw [if_neg (by decide)] at hg; cases hg; exact iteF (k _ F3 H3 (e1.trans (e2.trans e3)) rfl)
          | true =>
            rw [if_pos rfl] at hg
            refine iteT ?_
            cases qc : gc' ρ with
            | none => rw [qc] at hg; cases hg
            | some dz =>
              rw [qc] at hg
              refine ⟨F3, ρ, dz, rr.ext (e1.trans (e2.trans e3)), qc, fun w F4 H4 e4 p4 => ?_⟩
              exact hr' F4 H4 y w dy dz d Q e4.fh ((p2.mono e3.ff e3.hh).mono e4.ff e4.hh) p4 hg fun v F5 H5 e5 p5 => k v F5 H5 (e1.trans (e2.trans (e3.trans (e4.trans e5)))) p5
theorem dt_chain {op op' : CmpOp} {r r' : R2} {f f' : D -> D -> Option D} (ho : OpR X (compareOp op) r) (ho' : OpR X (compareOp op') r') (hr : OkR X.kw r (pE X.kw) f) (hr' : OkR X.kw r' (pE X.kw) f') (ha : DR X B a ga) (hb : DR X B b gb) (hc : DR X B c gc')
    (hm : lastMarks [op, op'] [b, c] = false := by with_unfolding_all rfl) : DT X B (.Compare a [op, op'] [b, c] pos) (gb' (g3 f f' ga gb gc')) :=
  pt_imp (pt_chain ho ho' ha hb hc hm) fun σ H Q ⟨F, ρ, c, rr, hg, k⟩ => by
    unfold gb' at hg
    cases q : g3 f f' ga gb gc' ρ with
    | none => rw [q] at hg; cases hg
    | some d =>
      rw [q] at hg
      rw [asB_some (show asB d = some c from hg)] at q
      exact chain_ok hr hr' ⟨F, ρ, _, rr, q, fun v F' H' e p => ⟨c, p, k F' H' e⟩⟩
def gNil : EnvD -> Option (List D) := fun _ => some []
def gCons' (g : EnvD -> Option D) (gs : EnvD -> Option (List D)) : EnvD -> Option (List D) := fun ρ => (g ρ).bind fun d => (gs ρ).bind fun ds => some (d :: ds)
variable {g : EnvD -> Option D} {gs : EnvD -> Option (List D)}
theorem das_nil : DAs X B [] gNil := pa_imp pa_nil fun σ H Q ⟨F, ρ, ds, r, hg, k⟩ => by cases hg; exact k [] F H (.refl r.fh) .nil
theorem drs_nil : DRs X B [] gNil := pa_imp pa_nil fun σ H Q ⟨F, ρ, ds, r, hg, k⟩ => by cases hg; exact k [] F H (.refl r.fh) .nil
theorem bind2 {α β γ : Type} {o : Option α} {p : Option β} {f : α -> β -> Option γ} {z : γ} (h : (o.bind fun x => p.bind fun y => f x y) = some z) : ∃ x y, o = some x /\ p = some y /\ f x y = some z := by
  cases o with
  | none => cases h
  | some x =>
    cases p with
    | none => cases h
    | some y => exact ⟨x, y, rfl, rfl, h⟩
theorem das_cons (ha : DE X B e g) (hr : DAs X B es gs) (hs : starEach (e :: es) X.env = (false, eval e X.env) :: starEach es X.env := by rfl) : DAs X B (e :: es) (gCons' g gs) :=
  pa_imp (pa_cons ha hr hs) fun σ H Q ⟨F, ρ, ds, r, hg, k⟩ => by
    obtain ⟨d, dr, q1, q2, q3⟩ := bind2 hg
    cases q3
    exact ⟨F, ρ, d, r, q1, fun v F1 H1 e1 p1 => ⟨F1, ρ, dr, r.ext e1, q2, fun vs F2 H2 e2 p2 => k _ F2 H2 (e1.trans e2) (.cons (Rp.mono e2.ff p1) p2)⟩⟩
theorem drs_cons (ha : DR X B e g) (hr : DRs X B es gs) (hs : starEach (e :: es) X.env = (false, eval e X.env) :: starEach es X.env := by rfl) : DRs X B (e :: es) (gCons' g gs) :=
  pa_imp (pa_cons ha hr hs) fun σ H Q ⟨F, ρ, ds, r, hg, k⟩ => by
    obtain ⟨d, dr, q1, q2, q3⟩ := bind2 hg
    cases q3
    exact ⟨F, ρ, d, r, q1, fun v F1 H1 e1 p1 => ⟨F1, ρ, dr, r.ext e1, q2, fun vs F2 H2 e2 p2 => k _ F2 H2 (e1.trans e2) (.cons (p1.mono e2.ff e2.hh) p2)⟩⟩
theorem rps_of {K : KW} {F : Hp} : ∀ {ds : List D} {vs : List V}, Paired (fun d v => Rp K F d v) ds vs -> Rps K F ds vs
  | _, _, .nil => rfl
  | _, _, .cons r t => ⟨_, _, rfl, r, rps_of t⟩
def gTup' (gs : EnvD -> Option (List D)) : EnvD -> Option D := fun ρ => (gs ρ).bind fun ds => if ds.length <= TOP then some (.tup ds) else none
def gLst (gs : EnvD -> Option (List D)) : EnvD -> Option (List D) := fun ρ => (gs ρ).bind fun ds => if ds.length <= TOP then some ds else none
theorem de_tup {x1} (h : DAs X B es gs) : DE X B (.Tuple es x1 pos) (gTup' gs) :=
  pe_imp (pe_tup h) fun σ H Q ⟨F, ρ, d, r, hg, k⟩ => by
    unfold gTup' at hg
    cases q : gs ρ with
    | none => rw [q] at hg; cases hg
    | some ds =>
      rw [q] at hg
      have hg : (if ds.length <= TOP then some (D.tup ds) else none) = some d := hg
      split at hg
      · rename_i hc
        cases hg
        refine ⟨F, ρ, ds, r, q, fun vs F1 H1 e1 p1 => ⟨top_line (by rw [<- (rps_of p1).length]; exact hc), fun p hp => ?_⟩⟩
        exact k _ (upd F1 p (.tup vs)) _ (e1.trans (.newF e1.fh hp)) ⟨p, vs, rfl, upd_same, (rps_of p1).mono (same_upd (e1.fh.free hp))⟩
      · cases hg
theorem da_lst (h : DAs X B es gs) : DA X B (.List es pos) (gLst gs) :=
  pe_imp (pe_lst h) fun σ H Q ⟨F, ρ, d, r, hg, k⟩ => by
    unfold gLst at hg
    cases q : gs ρ with
    | none => rw [q] at hg; cases hg
    | some ds =>
      rw [q] at hg
      have hg : (if ds.length <= TOP then some ds else none) = some d := hg
      split at hg
      · rename_i hc
        cases hg
        refine ⟨F, ρ, _, r, q, fun vs F1 H1 e1 p1 => ⟨top_line (by rw [<- (rps_of p1).length]; exact hc), fun p hp => ?_⟩⟩
        exact k _ F1 _ (e1.trans (.new e1.fh hp)) ⟨p, vs, rfl, e1.hh.free hp, upd_same, e1.fh.free hp, rps_of p1⟩
      · cases hg
def lO (K : KW) (B : Bs) (g : EnvD -> Option (Option Int)) : TO := fun σ H Q => ∃ F ρ i, Rep K B F σ H ρ /\ g ρ = some i /\ ∀ F' H', Ext F H F' H' -> Q i H'
def DO (X : Cx) (B : Bs) (e : Option Expr) (g : EnvD -> Option (Option Int)) : Prop := PO X e (lO X.kw B g)
theorem po_imp {e : Option Expr} {t t' : TO} (h : PO X e t) (k : ∀ σ H Q, t' σ H Q -> t σ H Q) : PO X e t' := fun pins s σ H Q I q => h pins s σ H Q I (k σ H Q q)
def gNone : EnvD -> Option (Option Int) := fun _ => some none
theorem do_none : DO X B none gNone := po_imp po_none fun σ H Q ⟨F, ρ, i, r, hg, k⟩ => by cases hg; exact k F H (.refl r.fh)
def asI : D -> Option Int
  | .int i => some i
  | _ => none
theorem asI_some {d : D} {i : Int} (h : asI d = some i) : d = .int i := by cases d <;> cases h; rfl
def gSome (g : EnvD -> Option D) : EnvD -> Option (Option Int) := fun ρ => (g ρ).bind fun d => (asI d).map some
theorem do_some (h : DR X B e g) : DO X B (some e) (gSome g) := po_imp (po_some h) fun σ H Q ⟨F, ρ, i, r, hg, k⟩ => by
  unfold gSome at hg
  cases q : g ρ with
  | none => rw [q] at hg; cases hg
  | some d =>
    rw [q] at hg
    cases q2 : asI d with
    | none => rw [show (some d).bind (fun d => (asI d).map some) = (asI d).map some from rfl, q2] at hg; cases hg
    | some j =>
      rw [show (some d).bind (fun d => (asI d).map some) = (asI d).map some from rfl, q2] at hg
      cases hg
      rw [asI_some q2] at q
      exact ⟨F, ρ, _, r, q, fun v F1 H1 e1 p1 => ⟨j, p1.int, k F1 H1 e1⟩⟩
def cutD {α : Type} (xs : List α) (lo hi : Option Int) : List α := (xs.drop (HT.sIx xs.length 0 lo)).take (HT.sIx xs.length xs.length hi - HT.sIx xs.length 0 lo)
def gSl (g : EnvD -> Option D) (gl gh : EnvD -> Option (Option Int)) : EnvD -> Option (List D) := fun ρ => (g ρ).bind fun d => (gl ρ).bind fun l => (gh ρ).bind fun h => match d with
  | .lst ds => some (cutD ds l h)
  | _ => none
theorem da_slice {lo hi : Option Expr} {gl gh : EnvD -> Option (Option Int)} {p2 : Pos} (he : DR X B e g) (hl : DO X B lo gl) (hh : DO X B hi gh) : DA X B (.Subscript e (.Slice lo hi none p2) pos) (gSl g gl gh) :=
  pe_imp (pe_slice sl_list he hl hh) fun σ H Q ⟨F, ρ, d, r, hg, k⟩ => by
    unfold gSl at hg
    cases q : g ρ with
    | none => rw [q] at hg; cases hg
    | some x =>
      cases ql : gl ρ with
      | none => rw [q, ql] at hg; cases hg
      | some l =>
        cases qh : gh ρ with
        | none => rw [q, ql, qh] at hg; cases hg
        | some h =>
          rw [q, ql, qh] at hg
          cases x with
          | lst ds =>
            cases hg
            refine ⟨F, ρ, _, r, q, fun v F1 H1 e1 p1 => ⟨F1, ρ, l, r.ext e1, ql, fun F2 H2 e2 => ⟨F2, ρ, h, r.ext (e1.trans e2), qh, fun F3 H3 e3 => ?_⟩⟩⟩
            have e := e1.trans (e2.trans e3)
            obtain ⟨a, vs, rfl, h1, h2⟩ := ((p1.mono e2.ff e2.hh).mono e3.ff e3.hh).lst e3.fh
            refine ⟨a, vs, rfl, .of h1, fun p hp => k _ F3 _ (e.trans (.new e.fh hp)) ⟨p, _, rfl, e.hh.free hp, upd_same, e.fh.free hp, ?_⟩⟩
            unfold cutD cutV
            rw [<- h2.length]
            exact (h2.drop _).take _
          | _ => cases hg
def CallOk {γ : Type} (K : KW) (r : List V -> Hp -> VK -> Prop) (pc : Post γ) (f : List D -> Option γ) : Prop :=
  ∀ F H vs ds d Q, Same F H -> Paired (fun d v => Rq K F H d v) ds vs -> f ds = some d -> (∀ v F' H', Ext F H F' H' -> pc F H F' H' d v -> Q v H') -> r vs H Q
def gB {γ : Type} (f : List D -> Option γ) (gs : EnvD -> Option (List D)) : EnvD -> Option γ := fun ρ => (gs ρ).bind f
theorem callB {γ : Type} {r : List V -> Hp -> VK -> Prop} {pc : Post γ} {f : List D -> Option γ} (hb : Back pc) (hr : CallOk X.kw r pc f) {σ : St} {H : Hp} {Q : VK} (h : lG X.kw B pc (gB f gs) σ H Q) : tCB r (lAs X.kw B (pR X.kw) gs) σ H Q := by
  obtain ⟨F, ρ, d, rr, hg, k⟩ := h
  unfold gB at hg
  cases q : gs ρ with
  | none => rw [q] at hg; cases hg
  | some ds =>
    rw [q] at hg
    exact ⟨F, ρ, ds, rr, q, fun vs F1 H1 e1 p1 => hr F1 H1 vs ds d Q e1.fh p1 hg fun v F' H' e p => k v F' H' (e1.trans e) (hb _ _ _ _ _ _ _ _ e1 p)⟩
variable {x : Str} {p : Pos} {id T : String}
theorem de_callB {r : List V -> Hp -> VK -> Prop} {f : List D -> Option D} (hc : CallR X (.builtin id) r) (hr : CallOk X.kw r (pE X.kw) f) (hg : Gl X x) (hm : X.mg x = none) (hv : bootBuiltins x = some (.builtin id)) (ha : DRs X B (e :: es) gs) (hn : x ≠ "__name__" := by decide) (hdb : (x == ("__debug__" : Str)) = false := by decide)
    (he : starEach (e :: es) X.env = (false, eval e X.env) :: starEach es X.env := by rfl) (hpl : (backTo pos (starEach es X.env)).any (·.1) = false := by rfl) : DE X B (.Call (.Name x p) (e :: es) [] pos) (gB f gs) :=
  pe_imp (pe_callB hc hg hm hv ha hn hdb he hpl) fun σ H Q h => callB back_E hr h
theorem da_callTy {r : List V -> Hp -> VK -> Prop} {f : List D -> Option (List D)} (hc : CallR X (.type T) r) (hr : CallOk X.kw r (pA X.kw) f) (hg : Gl X x) (hm : X.mg x = none) (hv : bootBuiltins x = some (.type T)) (ha : DRs X B (e :: es) gs) (hn : x ≠ "__name__" := by decide) (hdb : (x == ("__debug__" : Str)) = false := by decide)
    (he : starEach (e :: es) X.env = (false, eval e X.env) :: starEach es X.env := by rfl) (hpl : (backTo pos (starEach es X.env)).any (·.1) = false := by rfl) : DA X B (.Call (.Name x p) (e :: es) [] pos) (gB f gs) :=
  pe_imp (pe_callTy hc hg hm hv ha hn hdb he hpl) fun σ H Q h => callB back_A hr h
theorem de_callTy {r : List V -> Hp -> VK -> Prop} {f : List D -> Option D} (hc : CallR X (.type T) r) (hr : CallOk X.kw r (pE X.kw) f) (hg : Gl X x) (hm : X.mg x = none) (hv : bootBuiltins x = some (.type T)) (ha : DRs X B (e :: es) gs) (hn : x ≠ "__name__" := by decide) (hdb : (x == ("__debug__" : Str)) = false := by decide)
    (he : starEach (e :: es) X.env = (false, eval e X.env) :: starEach es X.env := by rfl) (hpl : (backTo pos (starEach es X.env)).any (·.1) = false := by rfl) : DE X B (.Call (.Name x p) (e :: es) [] pos) (gB f gs) :=
  pe_imp (pe_callTy hc hg hm hv ha hn hdb he hpl) fun σ H Q h => callB back_E hr h
def fLen : List D -> Option D
  | [.lst ds] => some (.int ds.length)
  | [.tup ds] => some (.int ds.length)
  | [.scr ns] => some (.int ns.length)
  | [.str x] => if x.length <= TOP then some (.int x.length) else none
  | _ => none
theorem pair1 {R : D -> V -> Prop} {d : D} {vs : List V} (h : Paired R [d] vs) : ∃ v, vs = [v] /\ R d v := by
  cases h with
  | cons r t => cases t; exact ⟨_, rfl, r⟩
theorem pair2 {R : D -> V -> Prop} {d d' : D} {vs : List V} (h : Paired R [d, d'] vs) : ∃ v v', vs = [v, v'] /\ R d v /\ R d' v' := by
  cases h with
  | cons r t =>
    obtain ⟨v', rfl, r'⟩ := pair1 t
    exact ⟨_, v', rfl, r, r'⟩
theorem ok_len {K : KW} : CallOk K (fun xs H Q => ∃ x n, xs = [x] /\ LenV K x H n /\ Q (.int n) H) (pE K) fLen := by
  intro F H vs ds d Q s hp e k
  unfold fLen at e
  split at e
  · cases e
    obtain ⟨v, rfl, r⟩ := pair1 hp
    obtain ⟨a, ws, rfl, h1, h2⟩ := r.lst s
    exact ⟨_, _, rfl, .inl ⟨ws, .of h1, h2.length⟩, k _ F H (.refl s) rfl⟩
  · cases e
    obtain ⟨v, rfl, r⟩ := pair1 hp
    obtain ⟨a, ws, rfl, h1, h2⟩ := r.tup s
    exact ⟨_, _, rfl, .inr ⟨ws, .of h1, h2.length⟩, k _ F H (.refl s) rfl⟩
  · cases e
    obtain ⟨v, rfl, r⟩ := pair1 hp
    obtain ⟨a, rfl, h1⟩ := r.scr s
    exact ⟨_, _, rfl, .inl ⟨_, h1, by simp⟩, k _ F H (.refl s) rfl⟩
  · split at e
    · rename_i hc
      cases e
      obtain ⟨v, rfl, r⟩ := pair1 hp
      cases r.str
      exact ⟨_, _, rfl, ⟨top_line hc, rfl⟩, k _ F H (.refl s) rfl⟩
    · cases e
  · cases e
end
section
variable {X : Cx} {B : Bs} {e a b c : Expr} {es : List Expr} {pos p p2 : Pos} {g ga gb : EnvD -> Option D} {gs : EnvD -> Option (List D)}
def tyD : D -> Option String
  | .non => some "NoneType"
  | .bl _ => some "bool"
  | .int _ => some "int"
  | .str _ => some "str"
  | .lst _ => some "list"
  | .tup _ => some "tuple"
  | .scr _ => none
  | .obj _ _ _ => none
def subT (t T : String) : Option Bool := if t = T then some true else if t = "bool" /\ T = "int" then some true else if (t ∈ ["NoneType", "bool", "int", "str", "list", "tuple"]) /\ (T ∈ ["bool", "int", "str", "list", "tuple", "dict"]) then some false else none
theorem ty_of {K : KW} {F H : Hp} (s : Same F H) {d : D} {v : V} {t : String} (r : Rq K F H d v) (h : tyD d = some t) : TyOf K H v (.type t) := by
  cases d with
  | non => cases r.non; cases h; exact .non
  | bl x => cases r.bl; cases h; exact .bl x
  | int x => cases r.int; cases h; exact .int x
  | str x => cases r.str; cases h; exact .str x
  | lst ds => obtain ⟨a, vs, rfl, q, _⟩ := r.lst s; cases h; exact .lst q
  | tup ds => obtain ⟨a, vs, rfl, q, _⟩ := r.tup s; cases h; exact .tup q
  | scr ns => cases h
  | obj C f ds => cases h
def gIs (T : String) (g : EnvD -> Option D) : EnvD -> Option D := fun ρ => (g ρ).bind fun d => (tyD d).bind fun t => (subT t T).map D.bl
theorem call_isinst {T : String} (hk : ∀ t b, subT t T = some b -> PySem.W.kitOne X.kw (.type t) (.type T) = some b) :
    CallR X (.builtin "isinstance") (fun xs H Q => ∃ x t b, xs = [x, .ty T] /\ TyOf X.kw H x (.type t) /\ subT t T = some b /\ Q (.bl b) H) := by
  intro pins s σ H vs us Q I r h
  obtain ⟨x, t, b, rfl, ty, hb, q⟩ := h
  obtain ⟨u, w, rfl, ru, rw'⟩ := vals2 r
  cases rw'
  exact isinst_ok I ru ty (hk t b hb) fun tk => ⟨.bl b, H, I.tok tk, rfl, q⟩
theorem de_isinst {T : String} {x : Str} (hk : ∀ t b, subT t T = some b -> PySem.W.kitOne X.kw (.type t) (.type T) = some b) (hg : Gl X "isinstance") (hm : X.mg "isinstance" = none) (hgT : Gl X x) (hmT : X.mg x = none) (hvT : bootBuiltins x = some (.type T)) (ha : DR X B a g)
    (hnT : x ≠ "__name__" := by decide) (hdT : (x == ("__debug__" : Str)) = false := by decide)
    (he : starEach [a, .Name x p2] X.env = (false, eval a X.env) :: starEach [.Name x p2] X.env := by rfl) (he2 : starEach [.Name x p2] X.env = (false, eval (.Name x p2) X.env) :: starEach [] X.env := by rfl) (hpl : (backTo pos (starEach [.Name x p2] X.env)).any (·.1) = false := by rfl) :
    DE X B (.Call (.Name "isinstance" p) [a, .Name x p2] [] pos) (gIs T g) :=
  pe_imp (pe_callB (call_isinst (T := T) hk) hg hm (by decide +kernel) (pa_cons ha (pa_cons (pe_bltn hgT hmT hvT (v := .ty T) rfl hnT hdT) pa_nil he2) he) (by decide) (by decide) he hpl) fun σ H Q ⟨F, ρ, d, r, hg, k⟩ => by
    unfold gIs at hg
    cases q : g ρ with
    | none => rw [q] at hg; cases hg
    | some x =>
      rw [q] at hg
      have hg : ((tyD x).bind fun t => (subT t T).map D.bl) = some d := hg
      cases q2 : tyD x with
      | none => rw [q2] at hg; cases hg
      | some t =>
        rw [q2] at hg
        have hg : (subT t T).map D.bl = some d := hg
        cases q3 : subT t T with
        | none => rw [q3] at hg; cases hg
        | some y =>
          rw [q3] at hg
          cases hg
          exact ⟨F, ρ, x, r, q, fun v F1 H1 e1 p1 => ⟨v, t, y, rfl, ty_of e1.fh p1 q2, q3, k _ F1 H1 e1 rfl⟩⟩
theorem call_allL (hc : X.calm = true) : CallR X (.builtin "all") (fun xs H Q => ∃ (a : Addr) (bs : List Bool), xs = [.ref a] /\ SqL X.kw H a (bs.map V.bl) /\ Q (.bl (bs.all fun x => x)) H) := by
  intro pins s σ H vs us Q I r h
  obtain ⟨a, bs, rfl, hq, q⟩ := h
  obtain ⟨u, rfl, ru⟩ := vals1 r
  cases ru
  obtain ⟨its, rv, pl, hz⟩ := I.list hq
  have hlt : a < s.heap.objs.size := let ⟨o, n, e, _⟩ := pl; Heap.lt_size e
  have hl : bs.length = its.length := by have := rv.length; simpa using this
  refine call_all_walk (wpAny_pyIter_list pl.isList ⟨s.heap.objs.size, _, _, _, _, _, fun i => bs.getD i false, rfl, Walks.list (A := X.A.in1) (I.ok.hd hc) s.heap.objs.size a (Nat.ne_of_lt hlt) its.toArray, ⟨⟨_, Heap.get?_push_size _ rfl, rfl, rfl⟩, ?_⟩, ?_, fun h' tk hk => ?_⟩)
  · obtain ⟨o, n, e, c1, c2, c3⟩ := pl
    exact ⟨o, Heap.get?_push_of_some _ e, c1, n, c3⟩
  · intro i v s' Q' E' hv hq'
    have hv : its[i]? = some v := by simpa using hv
    have hi : i < bs.length := by rw [hl]; exact (List.getElem?_eq_some_iff.mp hv).1
    have hb : (bs.map V.bl)[i]? = some (.bl bs[i]) := by simp [hi]
    obtain ⟨u, hu, ru⟩ := rv.get hb
    rw [hv] at hu; cases hu
    cases ru
    have e : bs.getD i false = bs[i] := by simp [List.getD, hi]
    have hq' : Q' (bs.getD i false) s' := hq'
    rw [e] at hq'
    exact wpAny_truthy_bool hq'
  · have e : ((List.range its.toArray.size).all fun i => bs.getD i false) = bs.all fun x => x := by
      rw [List.size_toArray, <- hl, Bool.eq_iff_iff]
      simp only [List.all_eq_true, List.mem_range]
      constructor
      · intro h x hx
        obtain ⟨i, hi, e⟩ := List.mem_iff_getElem.mp hx
        have := h i hi
        simpa [List.getD, hi, e] using this
      · intro h i hi
        have := h bs[i] (List.getElem_mem hi)
        simpa [List.getD, hi] using this
    rw [e]
    refine ⟨.bl (bs.all fun x => x), H, I.kept (t' := tk) fun b o e => hk b o (fun z => ?_) (Heap.get?_push_of_some _ e), rfl, q⟩
    have : b = s.heap.objs.size := by simpa using z
    exact absurd (Heap.lt_size e) (by rw [this]; exact Nat.lt_irrefl _)
def asBs : List D -> Option (List Bool)
  | [] => some []
  | .bl b :: r => (asBs r).map (b :: ·)
  | _ => none
theorem asBs_rps {K : KW} {F : Hp} : ∀ {ds : List D} {vs : List V} {bs : List Bool}, asBs ds = some bs -> Rps K F ds vs -> vs = bs.map V.bl
  | [], _, _, e, h => by cases e; cases h; rfl
  | .bl b :: r, _, _, e, ⟨v, w, e1, h, t⟩ => by
    subst e1; cases h
    cases q : asBs r with
    | none => rw [show asBs (.bl b :: r) = (asBs r).map (b :: ·) from rfl, q] at e; cases e
    | some bs =>
      rw [show asBs (.bl b :: r) = (asBs r).map (b :: ·) from rfl, q] at e
      cases e
      rw [asBs_rps q t]; rfl
  | .non :: _, _, _, e, _ => by cases e
  | .int _ :: _, _, _, e, _ => by cases e
  | .str _ :: _, _, _, e, _ => by cases e
  | .lst _ :: _, _, _, e, _ => by cases e
  | .tup _ :: _, _, _, e, _ => by cases e
  | .scr _ :: _, _, _, e, _ => by cases e
  | .obj _ _ _ :: _, _, _, e, _ => by cases e
def fAll : List D -> Option D
  | [.lst ds] => (asBs ds).map fun bs => .bl (bs.all fun x => x)
  | _ => none
theorem ok_all {K : KW} : CallOk K (fun xs H Q => ∃ (a : Addr) (bs : List Bool), xs = [.ref a] /\ SqL K H a (bs.map V.bl) /\ Q (.bl (bs.all fun x => x)) H) (pE K) fAll := by
  intro F H vs ds d Q s hp e k
  unfold fAll at e
  split at e
  · rename_i ds
    obtain ⟨v, rfl, r⟩ := pair1 hp
    obtain ⟨a, ws, rfl, h1, h2⟩ := r.lst s
    cases q : asBs ds with
    | none => rw [q] at e; cases e
    | some bs =>
      rw [q] at e
      cases e
      have := asBs_rps q h2
      subst this
      exact ⟨a, bs, rfl, .of h1, k _ F H (.refl s) rfl⟩
  · cases e
theorem call_listL : CallR X (.type "list") (fun xs H Q => ∃ a vs, xs = [.ref a] /\ (SqL X.kw H a vs ∨ SqT X.kw H a vs) /\ ∀ p, H p = none -> Q (.ref p) (upd H p (.lst vs))) := by
  intro pins s σ H vs us Q I r h
  obtain ⟨a, ws, rfl, hq, q⟩ := h
  obtain ⟨u, rfl, ru⟩ := vals1 r
  cases ru
  have fin : ∀ {T : String} {o : Obj} {its : List Value} {n : Nat}, (T = "list" ∨ T = "tuple") -> s.heap.get? a = some o -> o.cls = .type T -> o.data = .seq its.toArray n -> Vals ws its -> ws.length <= sizeLine -> wpAny (model X.prog X.w) X.A (call (.type "list") [.ref a]) (EP X pins σ Q) X.xe s := by
    intro T o its n hT ho hc hd rv hz
    have hl := rv.length
    refine call_list_seq a hT ho hc hd (fun h' c' hk hn => ?_) (by rw [List.size_toArray, <- hl]; exact hz)
    exact ⟨.ref s.heap.objs.size, upd H s.heap.objs.size (.lst ws), I.laid (t' := s.toks) hk (Nat.le_refl _) ⟨hz, its, c', rv, hn⟩, rfl, q _ (I.hok.fresh (Nat.le_refl _))⟩
  rcases hq with hq | hq
  · obtain ⟨its, rv, ⟨o, n, e, c1, c2, c3⟩, hz⟩ := I.list hq
    exact fin (.inl rfl) e c1 c3 rv hz
  · obtain ⟨its, rv, ⟨o, e, c1, n, c3⟩, hz⟩ := I.tuple hq
    exact fin (.inr rfl) e c1 c3 rv hz
def fList : List D -> Option (List D)
  | [.lst ds] => some ds
  | [.tup ds] => some ds
  | [.scr ns] => some (ns.map D.int)
  | _ => none
theorem ok_list {K : KW} : CallOk K (fun xs H Q => ∃ a vs, xs = [.ref a] /\ (SqL K H a vs ∨ SqT K H a vs) /\ ∀ p, H p = none -> Q (.ref p) (upd H p (.lst vs))) (pA K) fList := by
  intro F H vs ds d Q s hp e k
  unfold fList at e
  split at e
  · cases e
    obtain ⟨v, rfl, r⟩ := pair1 hp
    obtain ⟨a, ws, rfl, h1, h2⟩ := r.lst s
    exact ⟨a, ws, rfl, .inl (.of h1), fun p hp => k _ F _ (.new s hp) ⟨p, ws, rfl, hp, upd_same, s.free hp, h2⟩⟩
  · cases e
    obtain ⟨v, rfl, r⟩ := pair1 hp
    obtain ⟨a, ws, rfl, h1, h2⟩ := r.tup s
    exact ⟨a, ws, rfl, .inr (.of h1), fun p hp => k _ F _ (.new s hp) ⟨p, ws, rfl, hp, upd_same, s.free hp, h2⟩⟩
  · cases e
    obtain ⟨v, rfl, r⟩ := pair1 hp
    obtain ⟨a, rfl, h1⟩ := r.scr s
    exact ⟨a, _, rfl, .inl h1, fun p hp => k _ F _ (.new s hp) ⟨p, _, rfl, hp, upd_same, s.free hp, Rps.ints _⟩⟩
  · cases e
def ArgE (K : KW) (F H : Hp) : En -> V -> Prop
  | .val d, v => Rp K F d v
  | .bor ds, v => ∃ a vs, v = .ref a /\ H a = some (.lst vs) /\ Rps K F ds vs
  | .dbo kvs, v => ∃ a ob vs, v = .ref a /\ H a = some (DX K.w a ob vs) /\ Rkv K F kvs vs
  | _, _ => False
theorem ArgE.ext {K : KW} {F H F' H' : Hp} (e : Ext F H F' H') : ∀ {x : En} {v : V}, ArgE K F H x v -> ArgE K F' H' x v
  | .val _, _, h => Rp.mono e.ff h
  | .bor _, _, ⟨a, vs, e1, e2, e3⟩ => ⟨a, vs, e1, e.hh _ _ e2, e3.mono e.ff⟩
  | .acc _, _, h => h
  | .oac _ _ _ _ _, _, h => h
  | .tre _, _, h => h
  | .dct _ _, _, h => h
  | .dbo _, _, ⟨a, ob, vs, e1, e2, e3⟩ => ⟨a, ob, vs, e1, e.hh _ _ e2, e3.mono e.ff⟩
def pN (K : KW) : Post En := fun _ _ F' H' x v => ArgE K F' H' x v
def DN (X : Cx) (B : Bs) (e : Expr) (g : EnvD -> Option En) : Prop := PE X e (lG X.kw B (pN X.kw) g)
def lNs (K : KW) (B : Bs) (g : EnvD -> Option (List En)) : TA := fun σ H Q =>
  ∃ F ρ xs, Rep K B F σ H ρ /\ g ρ = some xs /\ ∀ vs F' H', Ext F H F' H' -> Paired (fun x v => ArgE K F' H' x v) xs vs -> Q vs H'
def DNs (X : Cx) (B : Bs) (es : List Expr) (g : EnvD -> Option (List En)) : Prop := PA X es (lNs X.kw B g)
def gVal (g : EnvD -> Option D) : EnvD -> Option En := fun ρ => (g ρ).map En.val
theorem dn_val (h : DE X B e g) : DN X B e (gVal g) := pe_imp h fun σ H Q ⟨F, ρ, x, r, hg, k⟩ => by
  unfold gVal at hg
  cases q : g ρ with
  | none => rw [q] at hg; cases hg
  | some d => rw [q] at hg; cases hg; exact ⟨F, ρ, d, r, q, fun v F' H' e p => k v F' H' e p⟩
def gn (i : Nat) : EnvD -> Option En := fun ρ => match ρ[i]? with
  | some (some (.val d)) => some (.val d)
  | some (some (.acc ds)) => some (.bor ds)
  | some (some (.bor ds)) => some (.bor ds)
  | some (some (.dct _ kvs)) => some (.dbo kvs)
  | some (some (.dbo kvs)) => some (.dbo kvs)
  | _ => none
theorem dn_var (i : Nat) {x : Str} (h : PE X (.Name x pos) (tVar i)) : DN X B (.Name x pos) (gn i) :=
  pe_imp h fun σ H Q ⟨F, ρ, d, r, hg, k⟩ => by
    unfold gn at hg
    split at hg
    · rename_i d' e
      cases hg
      obtain ⟨v, h1, h2⟩ := r.ents i _ e
      exact ⟨v, h1, k v F H (.refl r.fh) h2⟩
    · rename_i ds e
      cases hg
      obtain ⟨v, h1, a, vs, e1, e2, e3, e4, e5⟩ := r.ents i _ e
      exact ⟨v, h1, k v F H (.refl r.fh) ⟨a, vs, e1, e2, e5⟩⟩
    · rename_i ds e
      cases hg
      obtain ⟨v, h1, a, vs, e1, e2, e5⟩ := r.ents i _ e
      exact ⟨v, h1, k v F H (.refl r.fh) ⟨a, vs, e1, r.ex.hh _ _ e2, e5⟩⟩
    · rename_i oa kvs e
      cases hg
      obtain ⟨v, h1, a, ob, vs, e1, e2, e3, e4, e5, e6⟩ := r.ents i _ e
      exact ⟨v, h1, k v F H (.refl r.fh) ⟨a, ob, vs, e1, e2, e5⟩⟩
    · rename_i kvs e
      cases hg
      obtain ⟨v, h1, a, ob, vs, e1, e2, e5⟩ := r.ents i _ e
      exact ⟨v, h1, k v F H (.refl r.fh) ⟨a, ob, vs, e1, r.ex.hh _ _ e2, e5⟩⟩
    · cases hg
def nNil : EnvD -> Option (List En) := fun _ => some []
def nCons (g : EnvD -> Option En) (gs : EnvD -> Option (List En)) : EnvD -> Option (List En) := fun ρ => (g ρ).bind fun d => (gs ρ).bind fun ds => some (d :: ds)
variable {gx : EnvD -> Option En} {gxs : EnvD -> Option (List En)}
theorem dns_nil : DNs X B [] nNil := pa_imp pa_nil fun σ H Q ⟨F, ρ, ds, r, hg, k⟩ => by cases hg; exact k [] F H (.refl r.fh) .nil
theorem dns_cons (ha : DN X B e gx) (hr : DNs X B es gxs) (hs : starEach (e :: es) X.env = (false, eval e X.env) :: starEach es X.env := by rfl) : DNs X B (e :: es) (nCons gx gxs) :=
  pa_imp (pa_cons ha hr hs) fun σ H Q ⟨F, ρ, ds, r, hg, k⟩ => by
    obtain ⟨d, dr, q1, q2, q3⟩ := bind2 hg
    cases q3
    exact ⟨F, ρ, d, r, q1, fun v F1 H1 e1 p1 => ⟨F1, ρ, dr, r.ext e1, q2, fun vs F2 H2 e2 p2 => k _ F2 H2 (e1.trans e2) (.cons (ArgE.ext e2 p1) p2)⟩⟩
def pSp (K : KW) (n : Nat) (m : List En -> Option En) : Sp := fun vs H Q _ =>
  ∃ F xs o, Same F H /\ xs.length = n /\ Paired (fun x v => ArgE K F H x v) xs vs /\ m xs = some o /\ ∀ v F' H', Ext F H F' H' -> RepE K ⟨F, H⟩ F' H' o v -> Q v H'
def frzO : En -> Option D
  | .val d => some d
  | .acc ds => some (.lst ds)
  | .tre t => some t.erase
  | _ => none
def accO : En -> Option (List D)
  | .acc ds => some ds
  | _ => none
theorem frzO_ok {K : KW} {F H F' H' : Hp} {o : En} {d : D} {v : V} (hd : frzO o = some d) (e : Ext F H F' H') (r : RepE K ⟨F, H⟩ F' H' o v) : ∃ F2, Ext F H F2 H' /\ Rp K F2 d v := by
  cases o with
  | val x => cases hd; exact ⟨F', e, r⟩
  | acc ds =>
    cases hd
    obtain ⟨a, vs, rfl, h1, h2, h3, h4⟩ := r
    exact ⟨upd F' a (.lst vs), e.freeze h3 h2 h1, ⟨a, vs, rfl, upd_same, h4.mono (same_upd h2)⟩⟩
  | tre t =>
    cases hd
    obtain ⟨r1, r2, r3⟩ := r
    have sf : Same F' (addF F' H' (feetO H' t v)) := same_addF fun a ha => (r3 a ha).1
    refine ⟨addF F' H' (feetO H' t v), ⟨e.ff.trans sf, e.hh, fun b u q => ?_, fun b q => ?_⟩, RepO.fz sf r1 fun a ha => ha⟩
    · unfold addF at q
      split at q
      · exact q
      · exact e.fh b u q
    · unfold addF at q
      split at q
      · rename_i hb; exact .inr (r3 b hb).2
      · exact e.nw b q
  | _ => cases hd
def gCall {α : Type} (m : List En -> Option En) (f : En -> Option α) (gs : EnvD -> Option (List En)) : EnvD -> Option α := fun ρ => ((gs ρ).bind m).bind f
theorem bindC {α : Type} {m : List En -> Option En} {f : En -> Option α} {gs : EnvD -> Option (List En)} {ρ : EnvD} {y : α} (h : gCall m f gs ρ = some y) : ∃ xs o, gs ρ = some xs /\ m xs = some o /\ f o = some y := by
  unfold gCall at h
  cases q : gs ρ with
  | none => rw [q] at h; cases h
  | some xs =>
    rw [q] at h
    cases q2 : m xs with
    | none => rw [show (some xs).bind m = m xs from rfl, q2] at h; cases h
    | some o => rw [show (some xs).bind m = m xs from rfl, q2] at h; exact ⟨xs, o, rfl, q2, h⟩
theorem paired_len {α β : Type} {R : α -> β -> Prop} {l : List α} {r : List β} (h : Paired R l r) : l.length = r.length := Paired.length h
theorem call_E {n : Nat} {m : List En -> Option En} (hm : ∀ xs o, m xs = some o -> xs.length = n) {E : XK} {σ : St} {H : Hp} {Q : VK} (h : lG X.kw B (pE X.kw) (gCall m frzO gxs) σ H Q) : tCall (pSp X.kw n m) [] E (lNs X.kw B gxs) σ H Q := by
  obtain ⟨F, ρ, d, r, hg, k⟩ := h
  obtain ⟨xs, o, q1, q2, q3⟩ := bindC hg
  refine ⟨F, ρ, xs, r, q1, fun vs F1 H1 e1 p1 => ?_⟩
  show pSp X.kw n m (vs ++ []) H1 Q E
  rw [List.append_nil]
  refine ⟨F1, xs, o, e1.fh, hm xs o q2, p1, q2, fun v F2 H2 e2 p2 => ?_⟩
  obtain ⟨F3, e3, p3⟩ := frzO_ok q3 e2 p2
  exact k v F3 H2 (e1.trans e3) p3
theorem call_A {n : Nat} {m : List En -> Option En} (hm : ∀ xs o, m xs = some o -> xs.length = n) {E : XK} {σ : St} {H : Hp} {Q : VK} (h : lG X.kw B (pA X.kw) (gCall m accO gxs) σ H Q) : tCall (pSp X.kw n m) [] E (lNs X.kw B gxs) σ H Q := by
  obtain ⟨F, ρ, d, r, hg, k⟩ := h
  obtain ⟨xs, o, q1, q2, q3⟩ := bindC hg
  refine ⟨F, ρ, xs, r, q1, fun vs F1 H1 e1 p1 => ?_⟩
  show pSp X.kw n m (vs ++ []) H1 Q E
  rw [List.append_nil]
  refine ⟨F1, xs, o, e1.fh, hm xs o q2, p1, q2, fun v F2 H2 e2 p2 => ?_⟩
  cases o with
  | acc ds =>
    cases q3
    obtain ⟨a, ws, h1, h2, h3, h4, h5⟩ := p2
    exact k v F2 H2 (e1.trans e2) ⟨a, ws, h1, e1.hh.free h4, h2, h3, h5⟩
  | _ => cases q3
def len? (n : Nat) (m : List En -> Option En) : List En -> Option En := fun xs => if xs.length = n then m xs else none
theorem len_of {n : Nat} {m : List En -> Option En} : ∀ xs o, len? n m xs = some o -> xs.length = n := fun xs o h => by
  unfold len? at h
  split at h
  · assumption
  · cases h
variable {x mm : Str} {f C : Addr} {fd : FuncData} {ps : List Str} {n k : Nat} {m : List En -> Option En} {apos : Pos} {o : Expr}
theorem de_call (F : FnOk X.prog X.w X.kw X.mg X.base CX0 k f fd ps (pSp X.kw n (len? n m))) (hr : Room k X.A) (hg : Gl X x) (hm : X.mg x = some (.ref f)) (hk : PySem.W.keepIn X.kw (.ref f) = true) (hb : Binds X.kw fd ps [])
    (ha : DNs X B (e :: es) gxs) (hdb : (x == ("__debug__" : Str)) = false := by decide) (he : starEach (e :: es) X.env = (false, eval e X.env) :: starEach es X.env := by rfl) (hpl : (backTo pos (starEach es X.env)).any (·.1) = false := by rfl) :
    DE X B (.Call (.Name x p) (e :: es) [] pos) (gCall (len? n m) frzO gxs) :=
  pe_imp (pe_call F hr hg hm hk hb .nil pass0 ha hdb he hpl) fun σ H Q h => call_E len_of h
theorem da_call (F : FnOk X.prog X.w X.kw X.mg X.base CX0 k f fd ps (pSp X.kw n (len? n m))) (hr : Room k X.A) (hg : Gl X x) (hm : X.mg x = some (.ref f)) (hk : PySem.W.keepIn X.kw (.ref f) = true) (hb : Binds X.kw fd ps [])
    (ha : DNs X B (e :: es) gxs) (hdb : (x == ("__debug__" : Str)) = false := by decide) (he : starEach (e :: es) X.env = (false, eval e X.env) :: starEach es X.env := by rfl) (hpl : (backTo pos (starEach es X.env)).any (·.1) = false := by rfl) :
    DA X B (.Call (.Name x p) (e :: es) [] pos) (gCall (len? n m) accO gxs) :=
  pe_imp (pe_call F hr hg hm hk hb .nil pass0 ha hdb he hpl) fun σ H Q h => call_A len_of h
end
section
variable {X : Cx} {B : Bs} {e a b c o : Expr} {es : List Expr} {pos p apos : Pos} {g ga gb : EnvD -> Option D} {gx : EnvD -> Option En} {gxs : EnvD -> Option (List En)} {C f : Addr} {fl mm x : Str} {fd : FuncData} {ps : List Str} {n k : Nat} {m : List En -> Option En}
def iSp (K : KW) (C : Addr) (n : Nat) (mi : Addr -> Addr -> List En -> Option (List Str × List D)) : Sp := fun vs H Q _ =>
  ∃ F H1 xs x dx vs' fs ds, vs = .ref x :: vs' /\ H1 x = none /\ H1 dx = none /\ dx ≠ x /\ H = upd (upd H1 dx (.own x)) x (.ins C dx []) /\ Same F H1 /\ xs.length = n /\ Paired (fun y v => ArgE K F H1 y v) xs vs' /\ mi x dx xs = some (fs, ds) /\
    ∀ F' H' us, Ext F H1 F' H' -> F' x = none -> H' x = some (.ins C dx (fs.zip us)) -> fs.length = us.length -> Rps K F' ds us -> Q .non H'
end
inductive Fl where
  | next (ρ : EnvD) | ret (o : En) | brk (ρ : EnvD) | cont (ρ : EnvD)
def Fl.ok (K : KW) (B : Bs) (F : Hp) (E : Ends) : Fl -> Prop
  | .next ρ => ∀ σ' F' H', Rep K B F' σ' H' ρ -> Same F F' -> E.nx σ' H'
  | .brk ρ => ∀ σ' F' H', Rep K B F' σ' H' ρ -> Same F F' -> E.bk σ' H'
  | .cont ρ => ∀ σ' F' H', Rep K B F' σ' H' ρ -> Same F F' -> E.ct σ' H'
  | .ret o => ∀ v F' H', Ext B.F0 B.H0 F' H' -> RepE K B F' H' o v -> E.rt v H'
abbrev SD := EnvD -> Option Fl
def lS (K : KW) (B : Bs) (g : SD) : TS := fun E σ H => ∃ F ρ fl, Rep K B F σ H ρ /\ g ρ = some fl /\ fl.ok K B F E
def DS (X : Cx) (B : Bs) (st : Stmt) (g : SD) : Prop := PS X st (lS X.kw B g)
def DSs (X : Cx) (B : Bs) (sts : List Stmt) (g : SD) : Prop := PSs X sts (lS X.kw B g)
theorem Fl.ok.mono {K : KW} {B : Bs} {F F' : Hp} {E : Ends} {fl : Fl} (s : Same F F') (h : fl.ok K B F E) : fl.ok K B F' E := by
  cases fl with
  | next ρ => exact fun σ' F2 H' r s2 => h σ' F2 H' r (s.trans s2)
  | brk ρ => exact fun σ' F2 H' r s2 => h σ' F2 H' r (s.trans s2)
  | cont ρ => exact fun σ' F2 H' r s2 => h σ' F2 H' r (s.trans s2)
  | ret o => exact h
section
variable {X : Cx} {B : Bs} {e a b c o : Expr} {es : List Expr} {st : Stmt} {rest : List Stmt} {pos p apos : Pos} {g ga gb : EnvD -> Option D} {gl : EnvD -> Option (List D)} {gs1 gs2 : SD} {x : Str}
def sSeq (g1 g2 : SD) : SD := fun ρ => (g1 ρ).bind fun fl => match fl with
  | .next ρ' => g2 ρ'
  | fl => some fl
def sNext : SD := fun ρ => some (.next ρ)
theorem dss_nil : DSs X B [] sNext := pss_imp pss_nil fun E σ H ⟨F, ρ, fl, r, hg, k⟩ => by cases hg; exact k σ F H r (Same.refl _)
theorem dss_one (h : DS X B st gs1) : DSs X B [st] gs1 := pss_one h
theorem dss_cons (h1 : DS X B st gs1) (h2 : DSs X B rest gs2) : DSs X B (st :: rest) (sSeq gs1 gs2) :=
  pss_imp (pss_cons h1 h2) fun E σ H ⟨F, ρ, fl, r, hg, k⟩ => by
    unfold sSeq at hg
    cases q : gs1 ρ with
    | none => rw [q] at hg; cases hg
    | some f1 =>
      rw [q] at hg
      refine ⟨F, ρ, f1, r, q, ?_⟩
      cases f1 with
      | next ρ' => exact fun σ' F' H' r' s' => ⟨F', ρ', fl, r', hg, k.mono s'⟩
      | brk ρ' => cases hg; exact k
      | cont ρ' => cases hg; exact k
      | ret o' => cases hg; exact k
def sFrz (i : Nat) (g : SD) : SD := fun ρ => g (frzE i ρ)
theorem ds_frz (i : Nat) (h : DS X B st gs1) : DS X B st (sFrz i gs1) := ps_imp h fun E σ H ⟨F, ρ, fl, r, hg, k⟩ => by
  obtain ⟨F', s', r'⟩ := r.frz i
  exact ⟨F', _, fl, r', hg, k.mono s'⟩
def sSet (i : Nat) (g : EnvD -> Option D) : SD := fun ρ => (g ρ).map fun d => .next (ρ.set i (some (.val d)))
def sSetA (i : Nat) (g : EnvD -> Option (List D)) : SD := fun ρ => (g ρ).map fun ds => .next (ρ.set i (some (.acc ds)))
theorem set_ok {i : Nat} {E : Ends} {σ : St} {H : Hp} (h : lS X.kw B (sSet i g) E σ H) : tAsg (lG X.kw B (pE X.kw) g) (gName i) E σ H := by
  obtain ⟨F, ρ, fl, r, hg, k⟩ := h
  unfold sSet at hg
  cases q : g ρ with
  | none => rw [q] at hg; cases hg
  | some d =>
    rw [q] at hg
    cases hg
    exact ⟨F, ρ, d, r, q, fun v F1 H1 e1 p1 => k _ F1 H1 ((r.ext e1).setv p1) e1.ff⟩
theorem setA_ok {i : Nat} {E : Ends} {σ : St} {H : Hp} (h : lS X.kw B (sSetA i gl) E σ H) : tAsg (lG X.kw B (pA X.kw) gl) (gName i) E σ H := by
  obtain ⟨F, ρ, fl, r, hg, k⟩ := h
  unfold sSetA at hg
  cases q : gl ρ with
  | none => rw [q] at hg; cases hg
  | some ds =>
    rw [q] at hg
    cases hg
    refine ⟨F, ρ, ds, r, q, fun v F1 H1 e1 p1 => k _ F1 H1 ((r.ext e1).seto ?_ ?_) e1.ff⟩
    · obtain ⟨a, vs, h1, h2, h3, h4, h5⟩ := p1
      exact ⟨a, vs, h1, h3, h4, r.ex.hh.free h2, h5⟩
    · intro j y w hj hs _ b hb hc
      obtain ⟨a, vs, h1, h2, h3, h4, h5⟩ := p1
      subst h1
      simp only [feetE, List.mem_singleton] at hb
      subst hb
      obtain ⟨w', hw, hr⟩ := r.ents j y hj
      rw [hs] at hw; cases hw
      rw [hr.feet_ext e1.hh] at hc
      exact (hr.feet_at hc).1 h2
theorem ds_set {i : Nat} {x : Str} {pos' : Pos} (hN : X.N.Nodup) (hi : X.N[i]? = some x) (hx : Loc X.env.scope x) (he : DE X B e g) (hs : swapsWith e (some (.Name x pos')) pos.line X.env = pure false := by rfl) (hf : X.fn x = true ∨ X.env.scope.names.lookup x = some .local := by first | exact .inl rfl | exact .inr rfl | assumption) :
    DS X B (.Assign [.Name x pos'] e pos) (sSet i g) := ps_imp (ps_set hN hi hx he hs hf) fun E σ H h => set_ok h
theorem ds_setA {i : Nat} {x : Str} {pos' : Pos} (hN : X.N.Nodup) (hi : X.N[i]? = some x) (hx : Loc X.env.scope x) (he : DA X B e gl) (hs : swapsWith e (some (.Name x pos')) pos.line X.env = pure false := by rfl) (hf : X.fn x = true ∨ X.env.scope.names.lookup x = some .local := by first | exact .inl rfl | exact .inr rfl | assumption) :
    DS X B (.Assign [.Name x pos'] e pos) (sSetA i gl) := ps_imp (ps_set hN hi hx he hs hf) fun E σ H h => setA_ok h
def sRet (g : EnvD -> Option D) : SD := fun ρ => (g ρ).map fun d => .ret (.val d)
def sRetA (g : EnvD -> Option (List D)) : SD := fun ρ => (g ρ).map fun d => .ret (.acc d)
theorem ds_ret (he : DE X B e g) : DS X B (.Return (some e) pos) (sRet g) := ps_imp (ps_ret he) fun E σ H ⟨F, ρ, fl, r, hg, k⟩ => by
  unfold sRet at hg
  cases q : g ρ with
  | none => rw [q] at hg; cases hg
  | some d => rw [q] at hg; cases hg; exact ⟨F, ρ, d, r, q, fun v F1 H1 e1 p1 => k v F1 H1 (r.ex.trans e1) p1⟩
theorem ds_retA (he : DA X B e gl) : DS X B (.Return (some e) pos) (sRetA gl) := ps_imp (ps_ret he) fun E σ H ⟨F, ρ, fl, r, hg, k⟩ => by
  unfold sRetA at hg
  cases q : gl ρ with
  | none => rw [q] at hg; cases hg
  | some d =>
    rw [q] at hg; cases hg
    refine ⟨F, ρ, d, r, q, fun v F1 H1 e1 p1 => k v F1 H1 (r.ex.trans e1) ?_⟩
    obtain ⟨a, vs, h1, h2, h3, h4, h5⟩ := p1
    exact ⟨a, vs, h1, h3, h4, r.ex.hh.free h2, h5⟩
def sRetV (i : Nat) : SD := fun ρ => match ρ[i]? with
  | some (some (.acc ds)) => some (.ret (.acc ds))
  | some (some (.val d)) => some (.ret (.val d))
  | _ => none
theorem ds_retV (i : Nat) (h : PE X (.Name x p) (tVar i)) : DS X B (.Return (some (.Name x p)) pos) (sRetV i) := ps_imp (ps_ret h) fun E σ H ⟨F, ρ, fl, r, hg, k⟩ => by
  unfold sRetV at hg
  split at hg
  · rename_i ds q
    cases hg
    obtain ⟨v, h1, h2⟩ := r.ents i _ q
    exact ⟨v, h1, k v F H r.ex h2⟩
  · rename_i d q
    cases hg
    obtain ⟨v, h1, h2⟩ := r.ents i _ q
    exact ⟨v, h1, k v F H r.ex h2⟩
  · cases hg
def sIf (t : EnvD -> Option Bool) (g1 g2 : SD) : SD := fun ρ => (t ρ).bind fun b => if b then g1 ρ else g2 ρ
theorem ds_if {t : EnvD -> Option Bool} {as bs : List Stmt} (hc : DT X B c t) (ha : DSs X B as gs1) (hb : DSs X B bs gs2) : DS X B (.If c as bs pos) (sIf t gs1 gs2) := ps_imp (ps_if hc ha hb) fun E σ H ⟨F, ρ, fl, r, hg, k⟩ => by
  unfold sIf at hg
  cases q : t ρ with
  | none => rw [q] at hg; cases hg
  | some b =>
    rw [q] at hg
    refine ⟨F, ρ, b, r, q, fun F1 H1 e1 => ?_⟩
    cases b with
    | true => exact iteT ⟨F1, ρ, fl, r.ext e1, hg, k.mono e1.ff⟩
    | false => exact iteF ⟨F1, ρ, fl, r.ext e1, hg, k.mono e1.ff⟩
def sNever : SD := fun _ => none
theorem ds_never : DS X B st sNever := ps_imp ps_never fun E σ H ⟨F, ρ, fl, r, hg, k⟩ => by cases hg
def sApp (i : Nat) (g : EnvD -> Option D) : SD := fun ρ => match ρ[i]? with
  | some (some (.acc ds)) => (g ρ).bind fun d => if ds.length <= TOP then some (.next (ρ.set i (some (.acc (ds ++ [d]))))) else none
  | _ => none
theorem ds_app (i : Nat) {cpos : Pos} (hx : PE X (.Name x p) (tVar i)) (he : DE X B e g)
    (hbase : attributeBase (.Name x p) "append" X.env (eval (.Name x p) X.env) = eval (.Name x p) X.env := by rfl)
    (hfew : ((backTo cpos (starEach [e] X.env)).all (fun x => !x.1) && (backToKw cpos (keywordEach [] X.env)).all (fun x => x.1.isSome)
      && decide (([e] : List Expr).length + ([] : List Keyword).length + (if ([] : List Keyword).isEmpty then 0 else 1) < 30)) = true := by rfl)
    (hline : (apos.endLine == cpos.line) = true := by rfl) (hs : starEach [e] X.env = (false, eval e X.env) :: starEach [] X.env := by rfl) (hplain : (backTo cpos (starEach [] X.env)).any (·.1) = false := by rfl)
    (hsw : swapsWith (.Call (.Attribute (.Name x p) "append" apos) [e] [] cpos) none pos.line X.env = pure false := by rfl) :
    DS X B (.Expr (.Call (.Attribute (.Name x p) "append" apos) [e] [] cpos) pos) (sApp i g) :=
  ps_imp (ps_expr (pe_bm PySem.F.plainAttrs_list PySem.F.slot_list_append PySem.F.type_list_append mt_append hx (pa_cons he pa_nil hs) hbase hfew hline hs hplain) hsw) fun E σ H ⟨F, ρ, fl, r, hg, k⟩ => by
    unfold sApp at hg
    split at hg
    · rename_i ds q
      cases q2 : g ρ with
      | none => rw [q2] at hg; cases hg
      | some d =>
        rw [q2] at hg
        have hg : (if ds.length <= TOP then some (Fl.next (ρ.set i (some (.acc (ds ++ [d]))))) else none) = some fl := hg
        split at hg
        · rename_i hl
          cases hg
          obtain ⟨v, hv, a, vs, rfl, h1, h2, h3, h4⟩ := r.ents i _ q
          refine ⟨.ref a, hv, .inl ⟨rfl, _, .of h1⟩, F, ρ, d, r, q2, fun w F1 H1 e1 p1 => ?_⟩
          have r1 := r.ext e1
          obtain ⟨v', hv', a', vs', e', g1, g2, g3, g4⟩ := r1.ents i _ q
          rw [hv] at hv'; cases hv'; cases e'
          refine ⟨a, vs', w, rfl, rfl, g1, top_line' (by rw [<- g4.length]; exact hl), k σ F1 _ (r1.write q rfl hv g2 g3 ⟨a, _, rfl, upd_same, g2, g3, g4.snoc p1⟩ rfl) e1.ff⟩
        · cases hg
    · cases hg
end
inductive Tgt where
  | name (i : Nat) | tup (is : List Nat)
def gNames : List Nat -> TGs
  | [] => L2.gNil
  | i :: is => gCons (gName i) (gNames is)
def tgT (K : KW) : Tgt -> TG
  | .name i => gName i
  | .tup is => gTup K is.length (gNames is)
def setMany : List Nat -> List D -> EnvD -> EnvD
  | i :: is, d :: ds, ρ => setMany is ds (ρ.set i (some (.val d)))
  | _, _, ρ => ρ
def asgD : Tgt -> D -> EnvD -> Option EnvD
  | .name i, d, ρ => some (ρ.set i (some (.val d)))
  | .tup is, .tup ds, ρ => if ds.length = is.length then some (setMany is ds ρ) else none
  | _, _, _ => none
inductive SetOf : List Nat -> St -> St -> Prop
  | refl {is σ} : SetOf is σ σ
  | step {is σ σ' i v} : i ∈ is -> SetOf is (σ.set i v) σ' -> SetOf is σ σ'
def Tgt.slots : Tgt -> List Nat
  | .name i => [i]
  | .tup is => is
theorem SetOf.pre {is : List Nat} {σ σ' : St} (h : SetOf is σ σ') : ∀ {σ1 cv : St}, σ = σ1 ++ cv -> (∀ i ∈ is, i < σ1.length) -> ∃ σ1', σ1'.length = σ1.length /\ σ' = σ1' ++ cv := by
  induction h with
  | refl => intro σ1 cv e _; exact ⟨σ1, rfl, e⟩
  | @step σ σ' i v hi _ ih =>
    intro σ1 cv e hl
    obtain ⟨s, h1, h2⟩ := ih (σ1 := σ1.set i v) (cv := cv) (by rw [e, List.set_append_left _ _ (hl i hi)]) (fun j hj => by rw [List.length_set]; exact hl j hj)
    exact ⟨s, by rw [h1, List.length_set], h2⟩
theorem names_ok {K : KW} {B : Bs} {F H : Hp} {all : List Nat} : ∀ {is : List Nat} {ds : List D} {vs : List V} {σ : St} {ρ : EnvD} {Q : St -> Hp -> Prop}, Rep K B F σ H ρ -> Rps K F ds vs -> ds.length = is.length -> (∀ i ∈ is, i ∈ all) ->
    (∀ σ', Rep K B F σ' H (setMany is ds ρ) -> SetOf all σ σ' -> Q σ' H) -> gNames is vs σ H Q
  | [], [], _, σ, ρ, Q, r, h, _, _, k => by cases h; exact ⟨rfl, k σ r .refl⟩
  | [], _ :: _, _, _, _, _, _, _, hl, _, _ => by simp at hl
  | _ :: _, [], _, _, _, _, _, _, hl, _, _ => by simp at hl
  | i :: is, d :: ds, _, σ, ρ, Q, r, ⟨v, w, e, h, t⟩, hl, ha, k => by
    subst e
    refine ⟨v, w, rfl, ?_⟩
    exact names_ok (r.setv h) t (by simpa using hl) (fun j hj => ha j (List.mem_cons_of_mem _ hj)) fun σ' r' s' => k σ' r' (.step (ha i List.mem_cons_self) s')
theorem tg_ok {K : KW} {B : Bs} {F H : Hp} {t : Tgt} {d : D} {v : V} {σ : St} {ρ ρ' : EnvD} {Q : St -> Hp -> Prop} (r : Rep K B F σ H ρ) (h : Rp K F d v) (e : asgD t d ρ = some ρ') (k : ∀ σ', Rep K B F σ' H ρ' -> SetOf t.slots σ σ' -> Q σ' H) : tgT K t v σ H Q := by
  cases t with
  | name i => cases e; exact k _ (r.setv h) (.step (List.mem_singleton.mpr rfl) .refl)
  | tup is =>
    cases d with
    | tup ds =>
      have e : (if ds.length = is.length then some (setMany is ds ρ) else none) = some ρ' := e
      split at e
      · rename_i hl
        cases e
        obtain ⟨a, vs, rfl, h1, h2⟩ := h
        exact ⟨a, vs, rfl, .of (r.fh _ _ h1), by rw [<- h2.length]; exact hl, names_ok r h2 hl (fun i hi => hi) k⟩
      · cases e
    | _ => cases e
def Jok (K : KW) (Hb : Hp) (J : It) (F : Hp) (ds : List D) : Prop := ∀ F2 H2, Same F F2 -> Same F2 H2 -> Same Hb H2 -> ∀ i,
  (i < ds.length -> J.go i H2 /\ ∀ x H3, J.yld i H2 x H3 -> ∃ F3 d, Ext F2 H2 F3 H3 /\ ds[i]? = some d /\ Rp K F3 d x) /\ (i = ds.length -> J.stop i H2)
def lI (K : KW) (B : Bs) (hb : Hp -> Hp) (g : EnvD -> Option (List D)) : TI := fun σ H R => ∃ F ρ ds, Rep K B F σ H ρ /\ g ρ = some ds /\ ∀ J F' H', Ext F H F' H' -> Jok K (hb H') J F' ds -> R J H'
def DI (X : Cx) (B : Bs) (hb : Hp -> Hp) (tg iter : Expr) (g : EnvD -> Option (List D)) : Prop := PI X tg iter (lI X.kw B hb g)
def pQ (K : KW) (hb : Hp -> Hp) : Post D := fun _ _ F' H' d v => Rq K F' (hb H') d v
def DQ (X : Cx) (B : Bs) (hb : Hp -> Hp) (e : Expr) (g : EnvD -> Option D) : Prop := PE X e (lG X.kw B (pQ X.kw hb) g)
def HbOk (B : Bs) (hb : Hp -> Hp) : Prop := (∀ H, Same B.H0 H -> Same (hb H) H) /\ ∀ H H', Same H H' -> Same (hb H) (hb H')
theorem hb0 {B : Bs} : HbOk B (fun _ => B.H0) := ⟨fun _ h => h, fun _ _ _ => Same.refl _⟩
theorem hb1 {B : Bs} : HbOk B (fun H => H) := ⟨fun _ _ => Same.refl _, fun _ _ h => h⟩
section
variable {X : Cx} {B : Bs} {hb : Hp -> Hp} {e a b c tg iter : Expr} {es : List Expr} {pos p : Pos} {g ga gb : EnvD -> Option D} {gi : EnvD -> Option (List D)} {gs gbd : SD} {x : Str}
theorem DE.fix (h : DE X B e g) : DQ X B hb e g := pe_imp h fun σ H Q ⟨F, ρ, x, r, hg, k⟩ => ⟨F, ρ, x, r, hg, fun v F' H' e p => k v F' H' e (.inl p)⟩
theorem DR.cur (h : DR X B e g) : DQ X B (fun H => H) e g := h
def gf (i : Nat) : EnvD -> Option D := fun ρ => match ρ[i]? with
  | some (some (.val d)) => some d
  | some (some (.bor ds)) => some (.lst ds)
  | _ => none
theorem dq_var (i : Nat) (h : PE X (.Name x pos) (tVar i)) : DQ X B (fun _ => B.H0) (.Name x pos) (gf i) :=
  pe_imp h fun σ H Q ⟨F, ρ, d, r, hg, k⟩ => by
    unfold gf at hg
    split at hg
    · rename_i d' e
      cases hg
      obtain ⟨v, h1, h2⟩ := r.ents i _ e
      exact ⟨v, h1, k v F H (.refl r.fh) (.inl h2)⟩
    · rename_i ds e
      cases hg
      obtain ⟨v, h1, a, vs, e1, e2, e5⟩ := r.ents i _ e
      exact ⟨v, h1, k v F H (.refl r.fh) (.inr ⟨a, vs, ds, rfl, e1, e2, e5⟩)⟩
    · cases hg
def itL : D -> Option (List D)
  | .lst ds => some ds
  | .scr ns => some (ns.map D.int)
  | _ => none
theorem rq_items {K : KW} {F Hb : Hp} {d : D} {v : V} {ds : List D} (r : Rq K F Hb d v) (h : itL d = some ds) : ∃ a vs, v = .ref a /\ Rps K F ds vs /\ ∀ F2 H2, Same F F2 -> Same F2 H2 -> Same Hb H2 -> SqL K H2 a vs := by
  cases d with
  | lst es =>
    cases h
    rcases r with ⟨a, vs, rfl, q, t⟩ | ⟨a, vs, ds', e1, rfl, q, t⟩
    · exact ⟨a, vs, rfl, t, fun F2 H2 s1 s2 _ => .of (s2 _ _ (s1 _ _ q))⟩
    · cases e1; exact ⟨a, vs, rfl, t, fun F2 H2 _ _ s3 => .of (s3 _ _ q)⟩
  | scr ns =>
    cases h
    obtain ⟨a, rfl, q⟩ := r.one fun _ h => by cases h
    exact ⟨a, _, rfl, Rps.ints ns, fun F2 H2 s1 s2 _ => s2.seq (s1.seq q)⟩
  | _ => cases h
def gIt (g : EnvD -> Option D) : EnvD -> Option (List D) := fun ρ => (g ρ).bind itL
theorem di_list (hbk : HbOk B hb) (h : DQ X B hb e g) : DI X B hb tg e (gIt g) :=
  pi_imp (pi_list h) fun σ H R ⟨F, ρ, ds, r, hg, k⟩ => by
    unfold gIt at hg
    cases q : g ρ with
    | none => rw [q] at hg; cases hg
    | some d =>
      rw [q] at hg
      refine ⟨F, ρ, d, r, q, fun v F1 H1 e1 p1 => ?_⟩
      obtain ⟨a, vs, rfl, t, sq⟩ := rq_items p1 hg
      have r1 := r.ext e1
      refine ⟨a, rfl, ⟨vs, sq F1 H1 (Same.refl _) e1.fh (hbk.1 H1 r1.ex.hh)⟩, k _ F1 H1 e1 fun F2 H2 s1 s2 s3 i => ⟨fun hi => ?_, fun hi => ?_⟩⟩
      · have hq := sq F2 H2 s1 s2 s3
        have hiv : i < vs.length := by rw [<- t.length]; exact hi
        have hv : vs[i]? = some vs[i] := List.getElem?_eq_getElem hiv
        refine ⟨⟨vs, _, hq, hv⟩, fun x H3 hy => ?_⟩
        obtain ⟨rfl, hy⟩ := hy
        obtain ⟨d', hd, rd⟩ := t.get' (hy vs hq)
        exact ⟨F2, d', .refl s2, hd, rd.mono s1⟩
      · exact ⟨vs, sq F2 H2 s1 s2 s3, by rw [hi, t.length]; exact Nat.le_refl _⟩
def lQs (K : KW) (B : Bs) (hb : Hp -> Hp) (g : EnvD -> Option (List D)) : TA := fun σ H Q =>
  ∃ F ρ ds, Rep K B F σ H ρ /\ g ρ = some ds /\ ∀ vs F' H', Ext F H F' H' -> Paired (fun d v => Rq K F' (hb H') d v) ds vs -> Q vs H'
def DQs (X : Cx) (B : Bs) (hb : Hp -> Hp) (es : List Expr) (g : EnvD -> Option (List D)) : Prop := PA X es (lQs X.kw B hb g)
theorem dqs_nil : DQs X B hb [] gNil := pa_imp pa_nil fun σ H Q ⟨F, ρ, ds, r, hg, k⟩ => by cases hg; exact k [] F H (.refl r.fh) .nil
theorem dqs_cons (hbk : HbOk B hb) (ha : DQ X B hb e g) (hr : DQs X B hb es gi) (hs : starEach (e :: es) X.env = (false, eval e X.env) :: starEach es X.env := by rfl) : DQs X B hb (e :: es) (gCons' g gi) :=
  pa_imp (pa_cons ha hr hs) fun σ H Q ⟨F, ρ, ds, r, hg, k⟩ => by
    obtain ⟨d, dr, q1, q2, q3⟩ := bind2 hg
    cases q3
    exact ⟨F, ρ, d, r, q1, fun v F1 H1 e1 p1 => ⟨F1, ρ, dr, r.ext e1, q2, fun vs F2 H2 e2 p2 => k _ F2 H2 (e1.trans e2) (.cons (p1.mono e2.ff (hbk.2 _ _ e2.hh)) p2)⟩⟩
def zipD : List D -> List D -> List D
  | d :: ds, e :: es => .tup [d, e] :: zipD ds es
  | _, _ => []
theorem zipD_length : ∀ (ds es : List D), (zipD ds es).length = min ds.length es.length
  | [], _ => by simp [zipD]
  | _ :: _, [] => by simp [zipD]
  | _ :: ds, _ :: es => by simp [zipD, zipD_length ds es]
theorem zipD_get : ∀ (ds es : List D) (i : Nat) (d d' : D), ds[i]? = some d -> es[i]? = some d' -> (zipD ds es)[i]? = some (.tup [d, d'])
  | [], _, _, _, _, h, _ => by simp at h
  | _ :: _, [], _, _, _, _, h => by simp at h
  | _ :: _, _ :: _, 0, _, _, h, h' => by simp at h h'; subst h; subst h'; simp [zipD]
  | _ :: ds, _ :: es, i + 1, d, d', h, h' => by
    have := zipD_get ds es i d d' (by simpa using h) (by simpa using h')
    simpa [zipD] using this
def gZip (gs : EnvD -> Option (List D)) : EnvD -> Option (List D) := fun ρ => (gs ρ).bind fun xs => match xs with
  | [d, d'] => (itL d).bind fun ds => (itL d').map fun es => zipD ds es
  | _ => none
variable {elts : List Expr} {tk : Nat} {tpos : Pos}
theorem di_zip (hbk : HbOk B hb) (hg : Gl X "zip") (hm : X.mg "zip" = none) (ha : DQs X B hb [a, b] gi) (hs : starEach [a, b] X.env = [(false, eval a X.env), (false, eval b X.env)] := by rfl) (hs2 : starEach [b] X.env = [(false, eval b X.env)] := by rfl) :
    DI X B hb (.Tuple elts tk tpos) (.Call (.Name "zip" p) [a, b] [] pos) (gZip gi) :=
  pi_imp (pi_zip hg hm ha hs hs2) fun σ H R ⟨F, ρ, ds, r, hg, k⟩ => by
    unfold gZip at hg
    cases q : gi ρ with
    | none => rw [q] at hg; cases hg
    | some xs =>
      rw [q] at hg
      refine ⟨F, ρ, xs, r, q, fun vs F1 H1 e1 p1 => ?_⟩
      match xs, hg, p1 with
      | [d, d'], hg, p1 =>
        obtain ⟨v, v', rfl, rv, rv'⟩ := pair2 p1
        have hg : ((itL d).bind fun ds => (itL d').map fun es => zipD ds es) = some ds := hg
        cases q2 : itL d with
        | none => rw [q2] at hg; cases hg
        | some es =>
          rw [q2] at hg
          have hg : ((itL d').map fun fs => zipD es fs) = some ds := hg
          cases q3 : itL d' with
          | none => rw [q3] at hg; cases hg
          | some fs =>
            rw [q3] at hg
            cases hg
            obtain ⟨a, us, rfl, t, sq⟩ := rq_items rv q2
            obtain ⟨b, ws, rfl, t', sq'⟩ := rq_items rv' q3
            have r1 := r.ext e1
            have hb' := hbk.1 H1 r1.ex.hh
            refine ⟨a, b, rfl, ⟨us, sq F1 H1 (Same.refl _) e1.fh hb'⟩, ⟨ws, sq' F1 H1 (Same.refl _) e1.fh hb'⟩, k _ F1 H1 e1 fun F2 H2 s1 s2 s3 i => ⟨fun hi => ?_, fun hi => ?_⟩⟩
            · rw [zipD_length] at hi
              have hq := sq F2 H2 s1 s2 s3
              have hq' := sq' F2 H2 s1 s2 s3
              have hiv : i < us.length := by rw [<- t.length]; omega
              have hiv' : i < ws.length := by rw [<- t'.length]; omega
              have hv : us[i]? = some us[i] := List.getElem?_eq_getElem hiv
              have hv' : ws[i]? = some ws[i] := List.getElem?_eq_getElem hiv'
              refine ⟨⟨us, _, ws, _, hq, hv, hq', hv'⟩, fun x H3 hy => ?_⟩
              obtain ⟨T, w, w', nT, rfl, rfl, hy, hy'⟩ := hy
              obtain ⟨d1, hd, rd⟩ := t.get' (hy us hq)
              obtain ⟨d2, hd', rd'⟩ := t'.get' (hy' ws hq')
              have sT := same_upd (o := .tup [w, w']) (s2.free nT)
              exact ⟨upd F2 T (.tup [w, w']), _, .newF s2 nT, zipD_get es fs i d1 d2 hd hd', ⟨T, _, rfl, upd_same, _, _, rfl, (rd.mono s1).mono sT, _, _, rfl, (rd'.mono s1).mono sT, rfl⟩⟩
            · refine ⟨us, ws, sq F2 H2 s1 s2 s3, sq' F2 H2 s1 s2 s3, ?_⟩
              rw [zipD_length] at hi
              have h1 := t.length
              have h2 := t'.length
              omega
def rngD (lo : Int) : Nat -> List D
  | 0 => []
  | n + 1 => .int lo :: rngD (lo + 1) n
theorem rngD_length : ∀ (lo : Int) (n : Nat), (rngD lo n).length = n
  | _, 0 => rfl
  | lo, n + 1 => by simp [rngD, rngD_length (lo + 1) n]
theorem rngD_get : ∀ (lo : Int) (n i : Nat), i < n -> (rngD lo n)[i]? = some (.int (lo + i))
  | _, 0, _, h => by omega
  | lo, n + 1, 0, _ => by simp [rngD]
  | lo, n + 1, i + 1, h => by
    have := rngD_get (lo + 1) n i (by omega)
    simp only [rngD, List.getElem?_cons_succ, this]
    congr 2
    omega
def BIG : Int := 1000000000000
def gR1 (gs : EnvD -> Option (List D)) : EnvD -> Option (List D) := fun ρ => (gs ρ).bind fun xs => match xs with
  | [.int j] => if -BIG <= j /\ j <= BIG then some (rngD 0 j.toNat) else none
  | _ => none
theorem jok_rng {K : KW} {Hb F : Hp} (lo : Int) (n : Nat) : Jok K Hb (Itr lo n) F (rngD lo n) := fun F2 H2 s1 s2 s3 i => ⟨fun hi => by
  rw [rngD_length] at hi
  refine ⟨hi, fun x H3 hy => ?_⟩
  obtain ⟨rfl, rfl⟩ := hy
  exact ⟨F2, _, .refl s2, rngD_get lo n i hi, rfl⟩, fun hi => by rw [rngD_length] at hi; exact Nat.le_of_eq hi.symm⟩
theorem di_rng1 (hg : Gl X "range") (hm : X.mg "range" = none) (ha : DRs X B [a] gi) (hs : starEach [a] X.env = [(false, eval a X.env)] := by rfl) : DI X B hb tg (.Call (.Name "range" p) [a] [] pos) (gR1 gi) :=
  pi_imp (pi_range1 hg hm ha hs) fun σ H R ⟨F, ρ, ds, r, hg, k⟩ => by
    unfold gR1 at hg
    cases q : gi ρ with
    | none => rw [q] at hg; cases hg
    | some xs =>
      rw [q] at hg
      refine ⟨F, ρ, xs, r, q, fun vs F1 H1 e1 p1 => ?_⟩
      match xs, hg, p1 with
      | [.int j], hg, p1 =>
        obtain ⟨v, rfl, rv⟩ := pair1 p1
        cases rv.int
        have hg : (if -BIG <= j /\ j <= BIG then some (rngD 0 j.toNat) else none) = some ds := hg
        split at hg
        · rename_i hc
          cases hg
          unfold BIG at hc
          exact ⟨j, rfl, by omega, by omega, k _ F1 H1 e1 (jok_rng 0 _)⟩
        · cases hg
def forD (t : Tgt) (gb : SD) : List D -> EnvD -> Option Fl
  | [], ρ => some (.next ρ)
  | d :: ds, ρ => (asgD t d ρ).bind fun ρ1 => (gb ρ1).bind fun fl => match fl with
    | .next ρ2 => forD t gb ds ρ2
    | .cont ρ2 => forD t gb ds ρ2
    | .brk ρ2 => some (.next ρ2)
    | .ret o => some (.ret o)
def sFor (t : Tgt) (gi : EnvD -> Option (List D)) (gb : SD) : SD := fun ρ => (gi ρ).bind fun ds => forD t gb ds ρ
theorem ds_for {body : List Stmt} {t : Tgt} (hp : PassesOwn (model X.prog X.w) X.A X.env X.xe) (hc : X.calm = true) (hi : DI X B (fun _ => B.H0) tg iter gi) (hg : PG X tg (tgT X.kw t)) (hb : DSs X B body gbd)
    (hs : ∀ x, foldedSetIterable iter X.env x = pure x := by intro _; rfl) : DS X B (.For tg iter body [] pos) (sFor t gi gbd) :=
  ps_imp (ps_for hp hc hi hg hb hs) fun E σ H ⟨F, ρ, fl, r, hg, k⟩ => by
    unfold sFor at hg
    cases q : gi ρ with
    | none => rw [q] at hg; cases hg
    | some ds =>
      rw [q] at hg
      have hg : forD t gbd ds ρ = some fl := hg
      refine ⟨F, ρ, ds, r, q, fun J F1 H1 e1 jok => ?_⟩
      refine ⟨fun i m σ H => m = ds.length - i /\ i <= ds.length /\ ∃ F2 ρ2, Rep X.kw B F2 σ H ρ2 /\ Same F1 F2 /\ forD t gbd (ds.drop i) ρ2 = some fl, ⟨ds.length, rfl, Nat.zero_le _, F1, ρ, r.ext e1, Same.refl _, hg⟩, ?_⟩
      rintro i m σ2 H2 ⟨rfl, hi, F2, ρ2, r2, s2, h2⟩
      obtain ⟨j1, j2⟩ := jok F2 H2 s2 r2.fh r2.ex.hh i
      by_cases hlt : i < ds.length
      · obtain ⟨go, yl⟩ := j1 hlt
        refine .inr ⟨go, fun σ' H' => ∃ F3 ρ3, Rep X.kw B F3 σ' H' ρ3 /\ Same F1 F3 /\ forD t gbd (ds.drop (i + 1)) ρ3 = some fl, fun σ' H' ⟨F3, ρ3, r3, s3, h3⟩ => ⟨ds.length - (i + 1), by omega, rfl, hlt, F3, ρ3, r3, s3, h3⟩, fun x H3 hy => ?_⟩
        obtain ⟨F3, d, e3, hd, rd⟩ := yl x H3 hy
        have hdd : ds.drop i = d :: ds.drop (i + 1) := by
          rw [List.drop_eq_getElem_cons hlt]
          congr 1
          rw [List.getElem?_eq_getElem hlt] at hd
          exact Option.some.inj hd
        rw [hdd] at h2
        have h2 : ((asgD t d ρ2).bind fun ρ1 => (gbd ρ1).bind fun fl => match fl with
          | .next ρ2 => forD t gbd (ds.drop (i + 1)) ρ2
          | .cont ρ2 => forD t gbd (ds.drop (i + 1)) ρ2
          | .brk ρ2 => some (.next ρ2)
          | .ret o => some (.ret o)) = some fl := h2
        cases q1 : asgD t d ρ2 with
        | none => rw [q1] at h2; cases h2
        | some ρ3 =>
          rw [q1] at h2
          refine tg_ok (r2.ext e3) rd q1 fun σ' r4 _ => ?_
          cases q4 : gbd ρ3 with
          | none => rw [show (some ρ3).bind _ = (gbd ρ3).bind _ from rfl, q4] at h2; cases h2
          | some f1 =>
            rw [show (some ρ3).bind _ = (gbd ρ3).bind _ from rfl, q4] at h2
            refine ⟨F3, ρ3, f1, r4, q4, ?_⟩
            cases f1 with
            | next ρ5 => exact fun σ5 F5 H5 r5 s5 => ⟨F5, ρ5, r5, (s2.trans e3.ff).trans s5, h2⟩
            | cont ρ5 => exact fun σ5 F5 H5 r5 s5 => ⟨F5, ρ5, r5, (s2.trans e3.ff).trans s5, h2⟩
            | brk ρ5 => cases h2; exact fun σ5 F5 H5 r5 s5 => k σ5 F5 H5 r5 (e1.ff.trans ((s2.trans e3.ff).trans s5))
            | ret o => cases h2; exact k
      · have hi' : i = ds.length := by omega
        have hdd : ds.drop i = [] := by rw [hi', List.drop_length]
        rw [hdd] at h2
        cases h2
        exact .inl ⟨j2 hi', k σ2 F2 H2 r2 (e1.ff.trans s2)⟩
def capO : Option (Option En) -> Option En
  | some (some (.val d)) => some (.val d)
  | some (some (.acc ds)) => some (.bor ds)
  | some (some (.bor ds)) => some (.bor ds)
  | some (some (.dct _ kvs)) => some (.dbo kvs)
  | some (some (.dbo kvs)) => some (.dbo kvs)
  | _ => none
def capE (ρ : EnvD) (cap : List (Str × Nat)) : EnvD := cap.map fun p => capO ρ[p.2]?
def compD (t : Tgt) (tc : EnvD -> Option Bool) (ge : EnvD -> Option D) (ρ0 : EnvD) : List D -> Option (List D)
  | [] => some []
  | d :: ds => (asgD t d ρ0).bind fun ρ1 => (tc ρ1).bind fun b => if b then (ge ρ1).bind fun y => (compD t tc ge ρ0 ds).map (y :: ·) else compD t tc ge ρ0 ds
def gComp (own : List Str) (cap : List (Str × Nat)) (t : Tgt) (tc : EnvD -> Option Bool) (ge : EnvD -> Option D) (gi : EnvD -> Option (List D)) : EnvD -> Option (List D) := fun ρ =>
  (gi ρ).bind fun ds => if ds.length <= TOP then compD t tc ge (List.replicate own.length none ++ capE ρ cap) ds else none
def tYes : EnvD -> Option Bool := fun _ => some true
theorem yes_ok {K : KW} {B : Bs} {σ : St} {H : Hp} {Q : Bool -> Hp -> Prop} (h : lT K B tYes σ H Q) : tTrue σ H Q := by
  obtain ⟨F, ρ, b, r, hg, k⟩ := h
  cases hg
  exact k F H (.refl r.fh)
theorem pifs_imp {X : Cx} {ifs : List Expr} {t t' : TT} (h : PIfs X ifs t) (k : ∀ σ H Q, t' σ H Q -> t σ H Q) : PIfs X ifs t' := fun pins s σ H Q I q => h pins s σ H Q I (k σ H Q q)
def DIfs (X : Cx) (B : Bs) (ifs : List Expr) (g : EnvD -> Option Bool) : Prop := PIfs X ifs (lT X.kw B g)
theorem difs_nil : DIfs X B [] tYes := pifs_imp pifs_nil fun σ H Q h => yes_ok h
theorem difs_one {tc : EnvD -> Option Bool} (h : DT X B c tc) : DIfs X B [c] tc := pifs_one h
theorem cap_rep {K : KW} {B : Bs} {F F1 H H1 : Hp} {σ σ1 : St} {ρ : EnvD} {own : List Str} {cap : List (Str × Nat)} (r : Rep K B F σ H ρ) (e : Ext F H F1 H1) {F2 H2 : Hp} (e2 : Ext F1 H1 F2 H2) (hl : σ1.length = own.length) :
    Rep K ⟨F1, H1⟩ F2 (σ1 ++ cap.map fun p => (σ[p.2]?).getD none) H2 (List.replicate own.length none ++ capE ρ cap) := by
  have noown : ∀ i y, (List.replicate own.length none ++ capE ρ cap)[i]? = some (some y) -> ∃ p, cap[i - own.length]? = some p /\ own.length <= i /\ ((∃ d, y = .val d /\ ρ[p.2]? = some (some (.val d))) ∨ (∃ ds, y = .bor ds /\ ρ[p.2]? = some (some (.acc ds))) ∨ (∃ ds, y = .bor ds /\ ρ[p.2]? = some (some (.bor ds))) ∨ (∃ kvs, y = .dbo kvs /\ ∃ oa, ρ[p.2]? = some (some (.dct oa kvs))) ∨ ∃ kvs, y = .dbo kvs /\ ρ[p.2]? = some (some (.dbo kvs))) := by
    intro i y h
    by_cases hi : i < own.length
    · rw [List.getElem?_append_left (by simpa using hi), List.getElem?_replicate, if_pos hi] at h
      cases h
    · rw [List.getElem?_append_right (by simpa using hi), List.length_replicate] at h
      unfold capE at h
      rw [List.getElem?_map] at h
      cases q : cap[i - own.length]? with
      | none => rw [q] at h; cases h
      | some p =>
        rw [q] at h
        replace h : capO ρ[p.2]? = some y := Option.some.inj h
        refine ⟨p, rfl, by omega, ?_⟩
        unfold capO at h
        split at h
        · rename_i d q2; cases h; exact .inl ⟨d, rfl, q2⟩
        · rename_i ds q2; cases h; exact .inr (.inl ⟨ds, rfl, q2⟩)
        · rename_i ds q2; cases h; exact .inr (.inr (.inl ⟨ds, rfl, q2⟩))
        · rename_i oa ds q2; cases h; exact .inr (.inr (.inr (.inl ⟨ds, rfl, oa, q2⟩)))
        · rename_i ds q2; cases h; exact .inr (.inr (.inr (.inr ⟨ds, rfl, q2⟩)))
        · cases h
  refine ⟨e2, by simp [capE, hl], fun i y h => ?_, fun i j y z v w h1 h2 _ _ _ a ha _ => ?_⟩
  · obtain ⟨p, hp, hi, hy⟩ := noown i y h
    have slot : ∀ v, σ[p.2]? = some (some v) -> (σ1 ++ cap.map fun p => (σ[p.2]?).getD none)[i]? = some (some v) := fun v hv => by
      rw [List.getElem?_append_right (by rw [hl]; exact hi), hl, List.getElem?_map, hp]
      show some ((σ[p.2]?).getD none) = _
      rw [hv]; rfl
    rcases hy with ⟨d, rfl, q⟩ | ⟨ds, rfl, q⟩ | ⟨ds, rfl, q⟩ | ⟨ds, rfl, oa, q⟩ | ⟨ds, rfl, q⟩
    · obtain ⟨v, hv, h2⟩ := r.ents _ _ q
      exact ⟨v, slot v hv, Rp.mono (e.ff.trans e2.ff) h2⟩
    · obtain ⟨v, hv, a, vs, e1, g1, g2, g3, g4⟩ := r.ents _ _ q
      exact ⟨v, slot v hv, a, vs, e1, e.hh _ _ g1, g4.mono (e.ff.trans e2.ff)⟩
    · obtain ⟨v, hv, a, vs, e1, g1, g4⟩ := r.ents _ _ q
      exact ⟨v, slot v hv, a, vs, e1, e.hh _ _ (r.ex.hh _ _ g1), g4.mono (e.ff.trans e2.ff)⟩
    · obtain ⟨v, hv, a, ob, vs, e1, g1, g2, g3, g4, g5⟩ := r.ents _ _ q
      exact ⟨v, slot v hv, a, ob, vs, e1, e.hh _ _ g1, g4.mono (e.ff.trans e2.ff)⟩
    · obtain ⟨v, hv, a, ob, vs, e1, g1, g4⟩ := r.ents _ _ q
      exact ⟨v, slot v hv, a, ob, vs, e1, e.hh _ _ (r.ex.hh _ _ g1), g4.mono (e.ff.trans e2.ff)⟩
  · obtain ⟨p, _, _, hy⟩ := noown i y h1
    rcases hy with ⟨d, rfl, q⟩ | ⟨ds, rfl, q⟩ | ⟨ds, rfl, q⟩ | ⟨ds, rfl, oa, q⟩ | ⟨ds, rfl, q⟩ <;> cases ha
theorem da_comp {elt : Expr} {ifs : List Expr} {scope : Scope} {own : List Str} {cap : List (Str × Nat)} {t : Tgt} {tc : EnvD -> Option Bool} {ge : EnvD -> Option D} (hc : X.calm = true) (S : CompScope X scope own cap) (hi : DI X B (fun H => H) tg iter gi) (ht : ∀ i ∈ t.slots, i < own.length)
    (hin : ∀ (B' : Bs) C s₀ H₀ fp pn, PG (cxc X scope C (own ++ cap.map (·.1)) s₀ H₀ fp pn) tg (tgT X.kw t) /\ DIfs (cxc X scope C (own ++ cap.map (·.1)) s₀ H₀ fp pn) B' ifs tc /\ DE (cxc X scope C (own ++ cap.map (·.1)) s₀ H₀ fp pn) B' elt ge)
    (hs : ∀ x, foldedSetIterable iter X.env x = pure x := by intro _; rfl) :
    DA X B (.ListComp elt [⟨tg, iter, ifs, 0⟩] scope pos) (gComp own cap t tc ge gi) := by
  refine pe_imp (pe_lc (tc := fun σ H Q => ∃ B', lT X.kw B' tc σ H Q) (te := fun σ H Q => ∃ B', lG X.kw B' (pE X.kw) ge σ H Q) hc S hi (fun C s₀ H₀ fp pn => ⟨(hin ⟨H₀, H₀⟩ C s₀ H₀ fp pn).1, fun pins s σ H Q I ⟨B', q⟩ => (hin B' C s₀ H₀ fp pn).2.1 pins s σ H Q I q, fun pins s σ H Q I ⟨B', q⟩ => (hin B' C s₀ H₀ fp pn).2.2 pins s σ H Q I q⟩) hs) ?_
  intro σ H Q ⟨F, ρ, out, r, hg, k⟩
  unfold gComp at hg
  cases q : gi ρ with
  | none => rw [q] at hg; cases hg
  | some ds =>
    rw [q] at hg
    have hg : (if ds.length <= TOP then compD t tc ge (List.replicate own.length none ++ capE ρ cap) ds else none) = some out := hg
    split at hg
    · rename_i htop
      refine ⟨F, ρ, ds, r, q, fun J F1 H1 e1 jok => ?_⟩
      refine ⟨fun i m ys H2 => m = ds.length - i /\ i <= ds.length /\ ∃ F2 o1 o2, Ext F1 H1 F2 H2 /\ Rps X.kw F2 o1 ys /\ o1.length <= i /\ compD t tc ge (List.replicate own.length none ++ capE ρ cap) (ds.drop i) = some o2 /\ out = o1 ++ o2,
        ⟨ds.length, rfl, Nat.zero_le _, F1, [], out, .refl e1.fh, rfl, Nat.le_refl _, hg, rfl⟩, ?_⟩
      rintro i m ys H2 ⟨rfl, hi, F2, o1, o2, e2, ry, hl1, h2, rfl⟩
      refine ⟨top_line (by rw [<- ry.length]; omega), ?_⟩
      obtain ⟨j1, j2⟩ := jok F2 H2 e2.ff e2.fh e2.hh i
      by_cases hlt : i < ds.length
      · obtain ⟨go, yl⟩ := j1 hlt
        refine .inr ⟨go, fun ys' H' => ∃ F3 p1 p2, Ext F1 H1 F3 H' /\ Rps X.kw F3 p1 ys' /\ p1.length <= i + 1 /\ compD t tc ge (List.replicate own.length none ++ capE ρ cap) (ds.drop (i + 1)) = some p2 /\ o1 ++ o2 = p1 ++ p2, fun ys' H' ⟨F3, p1, p2, e3, r3, l3, h3, eo⟩ => ⟨ds.length - (i + 1), by omega, rfl, hlt, F3, p1, p2, e3, r3, l3, h3, eo⟩, fun x H3 hy σ1 hσ => ?_⟩
        obtain ⟨F3, d, e3, hd, rd⟩ := yl x H3 hy
        have hdd : ds.drop i = d :: ds.drop (i + 1) := by
          rw [List.drop_eq_getElem_cons hlt]
          congr 1
          rw [List.getElem?_eq_getElem hlt] at hd
          exact Option.some.inj hd
        rw [hdd] at h2
        simp only [compD] at h2
        cases q1 : asgD t d (List.replicate own.length none ++ capE ρ cap) with
        | none => rw [q1] at h2; cases h2
        | some ρ1 =>
          rw [q1] at h2
          have e13 := e2.trans e3
          refine tg_ok (cap_rep (own := own) (cap := cap) r e1 e13 hσ) rd q1 fun σ' r4 so => ⟨?_, ?_⟩
          · obtain ⟨σ1', l1, e4⟩ := so.pre (σ1 := σ1) rfl (fun j hj => by rw [hσ]; exact ht j hj)
            exact ⟨σ1', by rw [l1, hσ], e4⟩
          · have h2 : ((tc ρ1).bind fun b => if b then (ge ρ1).bind fun y => (compD t tc ge (List.replicate own.length none ++ capE ρ cap) (ds.drop (i + 1))).map (y :: ·) else compD t tc ge (List.replicate own.length none ++ capE ρ cap) (ds.drop (i + 1))) = some o2 := h2
            cases q2 : tc ρ1 with
            | none => rw [q2] at h2; cases h2
            | some bb =>
              rw [q2] at h2
              refine ⟨⟨F1, H1⟩, F3, ρ1, bb, r4, q2, fun F5 H5 e5 => ?_⟩
              cases bb with
              | false => exact iteF ⟨F5, o1, o2, e13.trans e5, ry.mono (e3.ff.trans e5.ff), by omega, h2, rfl⟩
              | true =>
                have h2 : ((ge ρ1).bind fun y => (compD t tc ge (List.replicate own.length none ++ capE ρ cap) (ds.drop (i + 1))).map (y :: ·)) = some o2 := h2
                cases q3 : ge ρ1 with
                | none => rw [q3] at h2; cases h2
                | some y =>
                  rw [q3] at h2
                  have h2 : (compD t tc ge (List.replicate own.length none ++ capE ρ cap) (ds.drop (i + 1))).map (y :: ·) = some o2 := h2
                  cases q4 : compD t tc ge (List.replicate own.length none ++ capE ρ cap) (ds.drop (i + 1)) with
                  | none => rw [q4] at h2; cases h2
                  | some p2 =>
                    rw [q4] at h2
                    cases h2
                    refine iteT ⟨⟨F1, H1⟩, F5, ρ1, y, r4.ext e5, q3, fun v F6 H6 e6 p6 => ?_⟩
                    exact ⟨F6, o1 ++ [y], p2, e13.trans (e5.trans e6), (ry.mono (e3.ff.trans (e5.ff.trans e6.ff))).snoc p6, by simp; omega, rfl, by simp⟩
      · have hi' : i = ds.length := by omega
        have hdd : ds.drop i = [] := by rw [hi', List.drop_length]
        rw [hdd] at h2
        cases h2
        refine .inl ⟨j2 hi', fun D hD => ?_⟩
        have e := e1.trans e2
        exact k _ F2 _ (e.trans (.new e.fh hD)) ⟨D, ys, rfl, e.hh.free hD, upd_same, e.fh.free hD, by simpa using ry⟩
    · cases hg
end
def stE (N : List Str) (xs : List (Option En)) : EnvD := xs ++ List.replicate (N.length - xs.length) none
def outO : Option Fl -> Option En
  | some (.next _) => some (.val .non)
  | some (.ret o) => some o
  | _ => none
def mir (N : List Str) (g : SD) : List En -> Option En := fun xs => outO (g (stE N (xs.map some)))
section
variable {P : Program} {w : World} {K : PySem.W.Frag} {mg : Str -> Option Value} {base : Heap}
theorem paired_get {α β : Type} {R : α -> β -> Prop} : ∀ {l : List α} {r : List β} {i : Nat} {x : α}, Paired R l r -> l[i]? = some x -> ∃ y, r[i]? = some y /\ R x y
  | _, _, _, _, .nil, e => by simp at e
  | _, _, 0, _, .cons r _, e => by simp at e; subst e; exact ⟨_, rfl, r⟩
  | _, _, i + 1, x, .cons _ t, e => by
    obtain ⟨u, h1, h2⟩ := paired_get (i := i) t (by simpa using e)
    exact ⟨u, by simpa using h1, h2⟩
theorem start_rep {F H : Hp} {N ps : List Str} {xs : List En} {vs : List V} (fh : Same F H) (hp : Paired (fun x v => ArgE ⟨K, w⟩ F H x v) xs vs) : Rep ⟨K, w⟩ ⟨F, H⟩ F (L2.start N vs) H (stE N (xs.map some)) := by
  have hl := paired_len hp
  have at' : ∀ (i : Nat) y, (stE N (xs.map some))[i]? = some (some y) -> xs[i]? = some y := fun i y h => by
    unfold stE at h
    by_cases hi : i < xs.length
    · rw [List.getElem?_append_left (by simpa using hi), List.getElem?_map] at h
      cases q : xs[i]? with
      | none => rw [q] at h; cases h
      | some z => rw [q] at h; cases h; rfl
    · rw [List.getElem?_append_right (by simpa using hi), List.getElem?_replicate] at h
      split at h <;> cases h
  refine ⟨.refl fh, ?_, fun i y h => ?_, fun i j y z v w h1 h2 _ _ _ a ha _ => ?_⟩
  · unfold L2.start stE
    simp [hl]
  · have hx := at' i y h
    obtain ⟨v, hv, r⟩ := paired_get hp hx
    refine ⟨v, ?_, ?_⟩
    · unfold L2.start
      rw [List.getElem?_append_left (by simpa using (List.getElem?_eq_some_iff.mp hv).1), List.getElem?_map, hv]; rfl
    · cases y with
      | val d => exact r
      | bor ds => exact r
      | acc ds => exact r.elim
      | oac a dx C fs ds => exact r.elim
      | tre t => exact r.elim
      | dct oa kvs => exact r.elim
      | dbo kvs => exact r
  · have hx := at' i y h1
    obtain ⟨u, _, r⟩ := paired_get hp hx
    cases y with
    | val d => cases ha
    | bor ds => cases ha
    | acc ds => exact r.elim
    | oac a dx C fs ds => exact r.elim
    | tre t => exact r.elim
    | dct oa kvs => exact r.elim
    | dbo kvs => cases ha
theorem fn_pure {x qual : Str} {st : Stmt} {f : Addr} {fd : FuncData} {N ps : List Str} {k : Nat} {g : SD} (F : Fun K x qual st f fd) (S : FnScope N ps (defScope st))
    (hb : ∀ (cdv : Value) (A : Around) (outer : List Env) (s : Shared) (H : Hp) (E : XK) (B : Bs), Room k (A.deeper (envOfC qual (defScope st) s.heap.objs.size f cdv)) ->
      DSs (cxOf CX0 P w K mg base N qual (defScope st) f cdv A outer s H E).nox B (defBody st) g) :
    FnOk P w K mg base CX0 (k + 1) f fd ps (pSp ⟨K, w⟩ ps.length (len? ps.length (mir N g))) := by
  refine F.ok S (fun vs H Q E h => ?_) (fun cdv A outer s H vs Q E hr h => ?_)
  · obtain ⟨F, xs, o, _, hl, hp, _⟩ := h
    rw [<- paired_len hp]; exact hl
  · obtain ⟨F0, xs, o, fh, hl, hp, hm, k⟩ := h
    refine ⟨_, hb cdv A outer s H E ⟨F0, H⟩ hr, ?_⟩
    have hm : mir N g xs = some o := by
      unfold len? at hm
      rw [if_pos hl] at hm
      exact hm
    unfold mir at hm
    cases q : g (stE N (xs.map some)) with
    | none => rw [q] at hm; cases hm
    | some fl =>
      rw [q] at hm
      refine ⟨F0, _, fl, start_rep (ps := ps) fh hp, q, ?_⟩
      cases fl with
      | next ρ => cases hm; exact fun σ' F' H' r s => k .non F' H' r.ex rfl
      | ret o' => cases hm; exact fun v F' H' e p => k v F' H' e p
      | brk ρ => cases hm
      | cont ρ => cases hm
end
section
variable {X : Cx} {B : Bs} {e a b c o : Expr} {es : List Expr} {pos p apos : Pos} {g : EnvD -> Option D} {gxs : EnvD -> Option (List En)} {x mm : Str} {C : Addr} {n k : Nat} {m : List En -> Option En}
def fNeg : D -> Option D
  | .int i => some (.int (-i))
  | _ => none
def gNeg (g : EnvD -> Option D) : EnvD -> Option D := fun ρ => (g ρ).bind fNeg
theorem de_neg (ha : DR X B a g) : DE X B (.UnaryOp .USub a pos) (gNeg g) :=
  pe_imp (pe_un un_neg ha) fun σ H Q ⟨F, ρ, d, r, hg, k⟩ => by
    unfold gNeg at hg
    cases q : g ρ with
    | none => rw [q] at hg; cases hg
    | some y =>
      rw [q] at hg
      cases y with
      | int i => cases hg; exact ⟨F, ρ, _, r, q, fun v F1 H1 e1 p1 => ⟨i, p1.int, k _ F1 H1 e1 rfl⟩⟩
      | _ => cases hg
structure Fx (P : Program) (w : World) (K : PySem.W.Frag) (mg : Str -> Option Value) (base : Heap) (x : Str) (k n : Nat) (m : List En -> Option En) : Prop where
  ex : ∃ f fd ps, FnOk P w K mg base CX0 k f fd ps (pSp ⟨K, w⟩ n (len? n m)) /\ mg x = some (.ref f) /\ PySem.W.keepIn K (.ref f) = true /\ Binds K fd ps []
structure Mx (P : Program) (w : World) (K : PySem.W.Frag) (mg : Str -> Option Value) (base : Heap) (C : Addr) (x : Str) (k n : Nat) (m : List En -> Option En) : Prop where
  ex : ∃ f fd ps, FnOk P w K mg base CX0 k f fd ps (pSp ⟨K, w⟩ n (len? n m)) /\ Meth K C x f /\ Binds K fd ps []
structure Kx (P : Program) (w : World) (K : PySem.W.Frag) (mg : Str -> Option Value) (base : Heap) (C : Addr) (x : Str) (k n : Nat) (mi : List En -> Option (List Str × List D)) : Prop where
  ex : ∃ f fd ps mi', FnOk P w K mg base CX0 k f fd ps (iSp ⟨K, w⟩ C n mi') /\ Mk K C f /\ mg x = some (.ref C) /\ Binds K fd ps [] /\ ∀ a dx xs, mi' a dx xs = mi xs
theorem de_callF (h : Fx X.prog X.w X.kw X.mg X.base x k n m) (hr : Room k X.A) (hg : Gl X x) (ha : DNs X B (e :: es) gxs) (hdb : (x == ("__debug__" : Str)) = false := by decide +kernel)
    (he : starEach (e :: es) X.env = (false, eval e X.env) :: starEach es X.env := by rfl) (hpl : (backTo pos (starEach es X.env)).any (·.1) = false := by rfl) : DE X B (.Call (.Name x p) (e :: es) [] pos) (gCall (len? n m) frzO gxs) := by
  obtain ⟨f, fd, ps, F, hm, hk, hb⟩ := h.ex
  exact de_call F hr hg hm hk hb ha hdb he hpl
theorem da_callF (h : Fx X.prog X.w X.kw X.mg X.base x k n m) (hr : Room k X.A) (hg : Gl X x) (ha : DNs X B (e :: es) gxs) (hdb : (x == ("__debug__" : Str)) = false := by decide +kernel)
    (he : starEach (e :: es) X.env = (false, eval e X.env) :: starEach es X.env := by rfl) (hpl : (backTo pos (starEach es X.env)).any (·.1) = false := by rfl) : DA X B (.Call (.Name x p) (e :: es) [] pos) (gCall (len? n m) accO gxs) := by
  obtain ⟨f, fd, ps, F, hm, hk, hb⟩ := h.ex
  exact da_call F hr hg hm hk hb ha hdb he hpl
theorem de_len {gs : EnvD -> Option (List D)} (hg : Gl X "len") (hm : X.mg "len" = none) (ha : DRs X B [a] gs) (he : starEach [a] X.env = (false, eval a X.env) :: starEach [] X.env := by rfl) (hpl : (backTo pos (starEach [] X.env)).any (·.1) = false := by rfl) :
    DE X B (.Call (.Name "len" p) [a] [] pos) (gB fLen gs) := de_callB call_len ok_len hg hm (by decide +kernel) ha (by decide) (by decide) he hpl
theorem de_all {gs : EnvD -> Option (List D)} (hc : X.calm = true) (hg : Gl X "all") (hm : X.mg "all" = none) (ha : DRs X B [a] gs) (he : starEach [a] X.env = (false, eval a X.env) :: starEach [] X.env := by rfl) (hpl : (backTo pos (starEach [] X.env)).any (·.1) = false := by rfl) :
    DE X B (.Call (.Name "all" p) [a] [] pos) (gB fAll gs) := de_callB (call_allL hc) ok_all hg hm (by decide +kernel) ha (by decide) (by decide) he hpl
theorem da_list {gs : EnvD -> Option (List D)} (hg : Gl X "list") (hm : X.mg "list" = none) (ha : DRs X B [a] gs) (he : starEach [a] X.env = (false, eval a X.env) :: starEach [] X.env := by rfl) (hpl : (backTo pos (starEach [] X.env)).any (·.1) = false := by rfl) :
    DA X B (.Call (.Name "list" p) [a] [] pos) (gB fList gs) := da_callTy call_listL ok_list hg hm (by decide +kernel) ha (by decide) (by decide) he hpl
theorem kitT {K : PySem.W.Frag} (T : String) (hT : T ∈ ["bool", "int", "str", "list", "tuple", "dict"]) : ∀ t b, subT t T = some b -> PySem.W.kitOne K (.type t) (.type T) = some b := by
  intro t b h
  unfold subT at h
  by_cases h1 : t = T
  · rw [if_pos h1] at h
    cases h
    subst h1
    unfold PySem.W.kitOne
    rw [if_pos (beq_self_eq_true _)]
  · rw [if_neg h1] at h
    by_cases h2 : t = "bool" /\ T = "int"
    · rw [if_pos h2] at h
      cases h
      obtain ⟨rfl, rfl⟩ := h2
      rfl
    · rw [if_neg h2] at h
      by_cases h3 : (t ∈ ["NoneType", "bool", "int", "str", "list", "tuple"]) /\ (T ∈ ["bool", "int", "str", "list", "tuple", "dict"])
      · rw [if_pos h3] at h
        cases h
        obtain ⟨m1, m2⟩ := h3
        simp only [List.mem_cons, List.not_mem_nil, or_false] at m1 m2
        rcases m1 with rfl | rfl | rfl | rfl | rfl | rfl <;> rcases m2 with rfl | rfl | rfl | rfl | rfl | rfl <;> first | rfl | exact absurd rfl h1 | exact absurd ⟨rfl, rfl⟩ h2
      · rw [if_neg h3] at h; cases h
def ckFree (sc : List (Str × NameKind)) (y : Str × NameKind) : Bool := y.2 != .free || sc.lookup y.1 == some .cell || sc.lookup y.1 == some .free
def ckComp (names sc : List (Str × NameKind)) (N : List Str) (cap : List (Str × Nat)) : Bool :=
  names.all (fun y => y.2 != .cell) && names.all (fun y => y.2 != .local || names.lookup y.1 == some .local) && names.all (ckFree sc) && cap.all (fun p => names.lookup p.1 == some .free && N[p.2]? == some p.1)
theorem comp_scope {scope : Scope} {own : List Str} {cap : List (Str × Nat)} {sc : List (Str × NameKind)} {N : List Str} (hk : scope.kind = .function) (h1 : X.env.scope.names = sc) (h2 : X.N = N) (h : ckComp scope.names sc N cap = true) : CompScope X scope own cap := by
  subst h1 h2
  unfold ckComp at h
  simp only [Bool.and_eq_true, List.all_eq_true] at h
  obtain ⟨⟨⟨a1, a2⟩, a3⟩, a4⟩ := h
  refine ⟨hk, fun y hy e => ?_, fun y hy e => ?_, fun y hy e => ?_, fun p hp => ?_⟩
  · have := a1 y hy; rw [e] at this; cases this
  · have := a2 y hy; rw [e] at this; simpa using this
  · have := a3 y hy
    unfold ckFree at this
    rw [e] at this
    have q : List.lookup y.fst X.env.scope.names = some NameKind.cell ∨ List.lookup y.fst X.env.scope.names = some NameKind.free := by simpa using this
    exact q
  · have := a4 p hp
    simpa using this
end
def thenB (o : Option Fl) (g : SD) : Option Fl := o.bind fun fl => match fl with | .next ρ' => g ρ' | fl => some fl
def loopB (o : Option Fl) (k : EnvD -> Option Fl) : Option Fl := o.bind fun fl => match fl with | .next ρ2 => k ρ2 | .cont ρ2 => k ρ2 | .brk ρ2 => some (.next ρ2) | .ret o => some (.ret o)
section
variable {ρ : EnvD} {i k n : Nat} {d x y : D} {ds es : List D} {a b j : Int} {α γ : Type} {ga gb gc' g : EnvD -> Option D} {ta tb : EnvD -> Option Bool} {gs : EnvD -> Option (List D)} {s1 s2 : SD}
@[simp] theorem ev_gc : gc d ρ = some d := rfl
@[simp] theorem ev_gv : gv i ρ = match ρ[i]? with | some (some (.val d)) => some d | _ => none := rfl
@[simp] theorem ev_gr : gr i ρ = match ρ[i]? with | some (some (.val d)) => some d | some (some (.acc ds)) => some (.lst ds) | some (some (.bor ds)) => some (.lst ds) | _ => none := rfl
@[simp] theorem ev_gn : gn i ρ = match ρ[i]? with | some (some (.val d)) => some (.val d) | some (some (.acc ds)) => some (.bor ds) | some (some (.bor ds)) => some (.bor ds) | some (some (.dct _ kvs)) => some (.dbo kvs) | some (some (.dbo kvs)) => some (.dbo kvs) | _ => none := rfl
@[simp] theorem ev_gf : gf i ρ = match ρ[i]? with | some (some (.val d)) => some d | some (some (.bor ds)) => some (.lst ds) | _ => none := rfl
@[simp] theorem ev_gFz : gFz gs ρ = (gs ρ).map D.lst := rfl
@[simp] theorem ev_g2 {f : D -> D -> Option γ} : g2 f ga gb ρ = (ga ρ).bind fun x => (gb ρ).bind fun y => f x y := rfl
@[simp] theorem ev_g3 {f f' : D -> D -> Option D} : g3 f f' ga gb gc' ρ = (ga ρ).bind fun x => (gb ρ).bind fun y => ((f x y).bind asB).bind fun k => if k then (gc' ρ).bind fun z => f' y z else some (.bl false) := rfl
@[simp] theorem ev_gt : gt g ρ = (g ρ).bind truD := rfl
@[simp] theorem ev_gb : gb' g ρ = (g ρ).bind asB := rfl
@[simp] theorem ev_gAnd : gAnd ta tb ρ = (ta ρ).bind fun x => if x then tb ρ else some false := rfl
@[simp] theorem ev_gOr : gOr ta tb ρ = (ta ρ).bind fun x => if x then some true else tb ρ := rfl
@[simp] theorem ev_gNot : gNot ta ρ = (ta ρ).map fun x => !x := rfl
@[simp] theorem ev_gAndV : gAndV ga gb ρ = ((ga ρ).bind asB).bind fun x => if x then gb ρ else some (.bl false) := rfl
@[simp] theorem ev_gIf : gIf ta ga gb ρ = (ta ρ).bind fun x => if x then ga ρ else gb ρ := rfl
@[simp] theorem ev_gNil : gNil ρ = some [] := rfl
@[simp] theorem ev_gCons : gCons' g gs ρ = (g ρ).bind fun d => (gs ρ).bind fun ds => some (d :: ds) := rfl
@[simp] theorem ev_gTup : gTup' gs ρ = (gs ρ).bind fun ds => if ds.length <= TOP then some (.tup ds) else none := rfl
@[simp] theorem ev_gLst : gLst gs ρ = (gs ρ).bind fun ds => if ds.length <= TOP then some ds else none := rfl
@[simp] theorem ev_gB {f : List D -> Option γ} : gB f gs ρ = (gs ρ).bind f := rfl
@[simp] theorem ev_nNil : nNil ρ = some [] := rfl
@[simp] theorem ev_nCons {g : EnvD -> Option En} {gs : EnvD -> Option (List En)} : nCons g gs ρ = (g ρ).bind fun d => (gs ρ).bind fun ds => some (d :: ds) := rfl
@[simp] theorem ev_gVal : gVal g ρ = (g ρ).map En.val := rfl
@[simp] theorem ev_gIs {T : String} : gIs T g ρ = (g ρ).bind fun d => (tyD d).bind fun t => (subT t T).map D.bl := rfl
@[simp] theorem ev_gNone : gNone ρ = some none := rfl
@[simp] theorem ev_gSome : gSome g ρ = (g ρ).bind fun d => (asI d).map some := rfl
@[simp] theorem ev_gNeg : gNeg g ρ = (g ρ).bind fNeg := rfl
@[simp] theorem ev_gIt : gIt g ρ = (g ρ).bind itL := rfl
@[simp] theorem ev_gSl {gl gh : EnvD -> Option (Option Int)} : gSl g gl gh ρ = (g ρ).bind fun d => (gl ρ).bind fun l => (gh ρ).bind fun h => match d with | .lst ds => some (cutD ds l h) | _ => none := rfl
@[simp] theorem ev_fNeg : fNeg (.int a) = some (.int (-a)) := rfl
@[simp] theorem ev_itL : itL (.lst ds) = some ds := rfl
@[simp] theorem ev_asI : asI (.int a) = some a := rfl
@[simp] theorem ev_asB {b : Bool} : asB (.bl b) = some b := rfl
@[simp] theorem ev_gCall {m : List En -> Option En} {f : En -> Option α} {gs : EnvD -> Option (List En)} : gCall m f gs ρ = ((gs ρ).bind m).bind f := rfl
@[simp] theorem ev_len {m : List En -> Option En} {xs : List En} : len? n m xs = if xs.length = n then m xs else none := rfl
@[simp] theorem ev_frzV : frzO (.val d) = some d := rfl
@[simp] theorem ev_frzA : frzO (.acc ds) = some (.lst ds) := rfl
@[simp] theorem ev_frzB : frzO (.bor ds) = none := rfl
@[simp] theorem ev_frzC {p q C : Addr} {fs : List Str} : frzO (.oac p q C fs ds) = none := rfl
@[simp] theorem ev_frzT {t : OT} : frzO (.tre t) = some t.erase := rfl
@[simp] theorem ev_accT {t : OT} : accO (.tre t) = none := rfl
@[simp] theorem ev_accV : accO (.val d) = none := rfl
@[simp] theorem ev_accB : accO (.bor ds) = none := rfl
@[simp] theorem ev_accA : accO (.acc ds) = some ds := rfl
@[simp] theorem ev_gR1 : gR1 gs ρ = (gs ρ).bind fun xs => match xs with | [.int j] => if -BIG <= j /\ j <= BIG then some (rngD 0 j.toNat) else none | _ => none := rfl
@[simp] theorem ev_gZip : gZip gs ρ = (gs ρ).bind fun xs => match xs with | [d, d'] => (itL d).bind fun ds => (itL d').map fun es => zipD ds es | _ => none := rfl
@[simp] theorem ev_gComp {own : List Str} {cap : List (Str × Nat)} {t : Tgt} {tc : EnvD -> Option Bool} {ge : EnvD -> Option D} {gi : EnvD -> Option (List D)} : gComp own cap t tc ge gi ρ = (gi ρ).bind fun ds => if ds.length <= TOP then compD t tc ge (List.replicate own.length none ++ capE ρ cap) ds else none := rfl
@[simp] theorem ev_capE {cap : List (Str × Nat)} : capE ρ cap = cap.map fun p => capO ρ[p.2]? := rfl
@[simp] theorem ev_tYes : tYes ρ = some true := rfl
theorem ev_fMul : fMul (.int a) (.int b) = if (decide (-LIM < a) && decide (a < LIM)) || (decide (-LIM < b) && decide (b < LIM)) then some (.int (a * b)) else none := rfl
theorem mul_l (h1 : -LIM < a) (h2 : a < LIM) : fMul (.int a) (.int b) = some (.int (a * b)) := by rw [ev_fMul, if_pos (by simp [h1, h2])]
theorem mul_r (h1 : -LIM < b) (h2 : b < LIM) : fMul (.int a) (.int b) = some (.int (a * b)) := by rw [ev_fMul, if_pos (by simp [h1, h2])]
theorem ev_fDiv : fDiv (.int a) (.int b) = if decide (0 < b) && decide (b < 1073741824) then some (.int (a / b)) else none := rfl
theorem ev_fMod : fMod (.int a) (.int b) = if decide (0 < b) then some (.int (a % b)) else none := rfl
theorem div_ok (h1 : 0 < b) (h2 : b < 1073741824) : fDiv (.int a) (.int b) = some (.int (a / b)) := by rw [ev_fDiv, if_pos (by simp [h1, h2])]
theorem mod_ok (h1 : 0 < b) : fMod (.int a) (.int b) = some (.int (a % b)) := by rw [ev_fMod, if_pos (by simp [h1])]
theorem shr_ok (h1 : 0 <= b) : fShr (.int a) (.int b) = some (.int (a / 2 ^ b.toNat)) := by show (if _ then _ else _) = _; rw [if_pos (by simp [h1])]
@[simp] theorem ev_fAnd : fAnd (.int a) (.int b) = some (.int (Builtin.bitAnd a b)) := rfl
theorem ev_fPow : fPow (.int a) (.int b) = if decide (0 <= b) && decide (b <= 1000000) && decide (a.natAbs < 18446744073709551616) then some (.int (a ^ b.toNat)) else none := rfl
@[simp] theorem ev_fLt : fLt (.int a) (.int b) = some (.bl (decide (a < b))) := rfl
@[simp] theorem ev_fLe : fLe (.int a) (.int b) = some (.bl (decide (a <= b))) := rfl
@[simp] theorem ev_fGt : fGt (.int a) (.int b) = some (.bl (decide (b < a))) := rfl
@[simp] theorem ev_fIxL : fIx (.lst ds) (.int a) = atI ds a := rfl
@[simp] theorem ev_fIxT : fIx (.tup ds) (.int a) = atI ds a := rfl
@[simp] theorem ev_fIxS {ns : List Int} : fIx (.scr ns) (.int a) = (atI ns a).map D.int := rfl
theorem eqOk_int : eqOk (.int a) = true := by simp [eqOk, SeqAt.shaped, toP, PyData.canLay0, PyData.depth]
@[simp] theorem ev_fEqI {neg : Bool} : fEq neg (.int a) (.int b) = some (.bl (if neg then !decide (a = b) else decide (a = b))) := by
  unfold fEq
  rw [eqOk_int, eqOk_int]
  have : eqD (.int a) (.int b) = decide (a = b) := by
    by_cases h : a = b
    · subst h; simp [eqD, toP, PyData.eqv]
    · simp [eqD, toP, PyData.eqv, h]
  rw [this]; rfl
@[simp] theorem ev_truB {b : Bool} : truD (.bl b) = some b := rfl
@[simp] theorem ev_truL : truD (.lst ds) = some (!ds.isEmpty) := rfl
@[simp] theorem ev_truT : truD (.tup ds) = some (!ds.isEmpty) := rfl
@[simp] theorem ev_fLenL : fLen [.lst ds] = some (.int ds.length) := rfl
@[simp] theorem ev_fLenT : fLen [.tup ds] = some (.int ds.length) := rfl
@[simp] theorem ev_fLenS {ns : List Int} : fLen [.scr ns] = some (.int ns.length) := rfl
@[simp] theorem ev_fAll : fAll [.lst ds] = (asBs ds).map fun bs => .bl (bs.all fun x => x) := rfl
@[simp] theorem ev_fListL : fList [.lst ds] = some ds := rfl
@[simp] theorem ev_fListT : fList [.tup ds] = some ds := rfl
@[simp] theorem ev_tyI : tyD (.int a) = some "int" := rfl
@[simp] theorem ev_tyB {b : Bool} : tyD (.bl b) = some "bool" := rfl
@[simp] theorem ev_tyN : tyD .non = some "NoneType" := rfl
@[simp] theorem ev_tyL : tyD (.lst ds) = some "list" := rfl
@[simp] theorem ev_tyT : tyD (.tup ds) = some "tuple" := rfl
@[simp] theorem ev_tyS {x : Str} : tyD (.str x) = some "str" := rfl
@[simp] theorem subT_int_int : subT "int" "int" = some true := by decide
@[simp] theorem subT_int_bool : subT "int" "bool" = some false := by decide
@[simp] theorem subT_non_int : subT "NoneType" "int" = some false := by decide
@[simp] theorem subT_l_l : subT "list" "list" = some true := by decide
@[simp] theorem subT_t_t : subT "tuple" "tuple" = some true := by decide
@[simp] theorem ev_sSeq : sSeq s1 s2 ρ = thenB (s1 ρ) s2 := rfl
@[simp] theorem thenB_next : thenB (some (.next ρ)) s2 = s2 ρ := rfl
@[simp] theorem thenB_ret {o : En} : thenB (some (.ret o)) s2 = some (.ret o) := rfl
@[simp] theorem thenB_none : thenB none s2 = none := rfl
@[simp] theorem loopB_next {k : EnvD -> Option Fl} : loopB (some (.next ρ)) k = k ρ := rfl
@[simp] theorem loopB_ret {k : EnvD -> Option Fl} {o : En} : loopB (some (.ret o)) k = some (.ret o) := rfl
@[simp] theorem loopB_none {k : EnvD -> Option Fl} : loopB none k = none := rfl
@[simp] theorem ev_sNext : sNext ρ = some (.next ρ) := rfl
@[simp] theorem ev_sNever : sNever ρ = none := rfl
@[simp] theorem ev_sFrz : sFrz i s1 ρ = s1 (frzE i ρ) := rfl
@[simp] theorem ev_frzE : frzE i ρ = match ρ[i]? with | some (some (.acc ds)) => ρ.set i (some (.val (.lst ds))) | some (some (.oac _ _ C fs ds)) => ρ.set i (some (.val (.obj C fs ds))) | some (some (.tre t)) => ρ.set i (some (.val t.erase)) | _ => ρ := rfl
@[simp] theorem ev_sSet : sSet i g ρ = (g ρ).map fun d => .next (ρ.set i (some (.val d))) := rfl
@[simp] theorem ev_sSetA : sSetA i gs ρ = (gs ρ).map fun ds => .next (ρ.set i (some (.acc ds))) := rfl
@[simp] theorem ev_sRet : sRet g ρ = (g ρ).map fun d => .ret (.val d) := rfl
@[simp] theorem ev_sRetA : sRetA gs ρ = (gs ρ).map fun d => .ret (.acc d) := rfl
@[simp] theorem ev_sRetV : sRetV i ρ = match ρ[i]? with | some (some (.acc ds)) => some (.ret (.acc ds)) | some (some (.val d)) => some (.ret (.val d)) | _ => none := rfl
@[simp] theorem ev_sIf : sIf ta s1 s2 ρ = (ta ρ).bind fun b => if b then s1 ρ else s2 ρ := rfl
@[simp] theorem ev_sApp : sApp i g ρ = match ρ[i]? with | some (some (.acc ds)) => (g ρ).bind fun d => if ds.length <= TOP then some (.next (ρ.set i (some (.acc (ds ++ [d]))))) else none | _ => none := rfl
@[simp] theorem ev_sFor {t : Tgt} {gi : EnvD -> Option (List D)} : sFor t gi s1 ρ = (gi ρ).bind fun ds => forD t s1 ds ρ := rfl
@[simp] theorem ev_asgN : asgD (.name i) d ρ = some (ρ.set i (some (.val d))) := rfl
@[simp] theorem ev_asgT {is : List Nat} : asgD (.tup is) (.tup ds) ρ = if ds.length = is.length then some (setMany is ds ρ) else none := rfl
@[simp] theorem ev_setMany {is : List Nat} : setMany (i :: is) (d :: ds) ρ = setMany is ds (ρ.set i (some (.val d))) := rfl
@[simp] theorem ev_setMany0 : setMany [] [] ρ = ρ := rfl
@[simp] theorem ev_outR {o : En} : outO (some (.ret o)) = some o := rfl
@[simp] theorem ev_outN : outO (some (.next ρ)) = some (.val .non) := rfl
@[simp] theorem ev_for0 {t : Tgt} : forD t s1 [] ρ = some (.next ρ) := rfl
@[simp] theorem ev_forS {t : Tgt} : forD t s1 (d :: ds) ρ = loopB ((asgD t d ρ).bind s1) (forD t s1 ds) := by
  show ((asgD t d ρ).bind fun ρ1 => (s1 ρ1).bind fun fl => _) = _
  cases asgD t d ρ with
  | none => rfl
  | some ρ1 => rfl
@[simp] theorem ev_comp0 {t : Tgt} : compD t ta g ρ [] = some [] := rfl
@[simp] theorem ev_compS {t : Tgt} : compD t ta g ρ (d :: ds) = (asgD t d ρ).bind fun ρ1 => (ta ρ1).bind fun b => if b then (g ρ1).bind fun y => (compD t ta g ρ ds).map (y :: ·) else compD t ta g ρ ds := rfl
@[simp] theorem ev_cap1 : capO (some (some (.val d))) = some (.val d) := rfl
@[simp] theorem ev_cap2 : capO (some (some (.acc ds))) = some (.bor ds) := rfl
@[simp] theorem ev_cap3 : capO (some (some (.bor ds))) = some (.bor ds) := rfl
@[simp] theorem ev_cap4 {oa : Option Addr} {kvs : List (Key × D)} : capO (some (some (.dct oa kvs))) = some (.dbo kvs) := rfl
@[simp] theorem ev_cap5 {kvs : List (Key × D)} : capO (some (some (.dbo kvs))) = some (.dbo kvs) := rfl
theorem atI_at {xs : List α} {v : α} (n : Nat) (h : xs[n]? = some v) : atI xs (n : Int) = some v := by
  have hl : n < xs.length := (List.getElem?_eq_some_iff.mp h).1
  unfold atI ixN
  rw [if_pos (by omega), if_pos (by omega)]
  simpa using h
@[simp] theorem atI_0 {xs : List α} {v : α} : atI (v :: xs) 0 = some v := atI_at 0 rfl
@[simp] theorem atI_1 {xs : List α} {v w : α} : atI (w :: v :: xs) 1 = some v := atI_at 1 rfl
@[simp] theorem atI_2 {xs : List α} {v w u : α} : atI (u :: w :: v :: xs) 2 = some v := atI_at 2 rfl
@[simp] theorem atI_last {xs : List α} {v : α} : atI (xs ++ [v]) (-1) = some v := by
  unfold atI ixN
  rw [if_neg (by omega), if_pos (by simp; omega)]
  simp
  have : (-1 + ((xs.length : Int) + 1)).toNat = xs.length := by omega
  rw [this]; simp
theorem ixN_last (n : Nat) : ixN (n + 1) (-1) = some n := by
  unfold ixN
  rw [if_neg (by omega), if_pos (by omega)]
  congr 1; omega
theorem rngD_map : ∀ (lo : Int) (n : Nat), rngD lo n = (List.range n).map fun (k : Nat) => D.int (lo + k)
  | lo, 0 => rfl
  | lo, n + 1 => by
    rw [rngD, rngD_map (lo + 1) n, List.range_succ_eq_map]
    simp only [List.map_cons, List.map_map]
    congr 1
    · simp
    · apply List.map_congr_left
      intro a _
      show D.int _ = D.int _
      congr 1
      show lo + 1 + (a : Int) = lo + ((a + 1 : Nat) : Int)
      omega
end
section
variable {X : Cx} {B : Bs} {e a b c o : Expr} {es : List Expr} {pos p apos cpos p2 : Pos} {g ga gb go : EnvD -> Option D} {gs : EnvD -> Option (List D)} {x : Str}
def fPlus : D -> D -> Option D
  | .int i, .int j => some (.int (i + j))
  | .str x, .str y => if x.length + y.length <= TOP then some (.str (x ++ y)) else none
  | _, _ => none
theorem ok_plus {K : KW} : OkR K (fun x y H Q => rI0 (fun i j => .int (i + j)) x y H Q ∨ ∃ i j, x = .str i /\ y = .str j /\ i.length + j.length <= sizeLine /\ Q (.str (i ++ j)) H) (pE K) fPlus := by
  intro F H x y dx dy d Q s rx ry e k
  unfold fPlus at e
  split at e
  · cases e; exact .inl ⟨_, _, rx.int, ry.int, k _ F H (.refl s) rfl⟩
  · split at e
    · rename_i hc
      cases e; exact .inr ⟨_, _, rx.str, ry.str, top_line hc, k _ F H (.refl s) rfl⟩
    · cases e
  · cases e
theorem de_plus (ha : DR X B a ga) (hb : DR X B b gb) : DE X B (.BinOp a .Add b pos) (g2 fPlus ga gb) := de_op (op_add.or op_add_str) ok_plus ha hb
def fItem : D -> D -> Option D
  | .str z, .int i => if z.length <= TOP then (atI z.cps.toList i).map fun c => .str ⟨#[c]⟩ else none
  | .lst xs, .int i => atI xs i
  | .tup xs, .int i => atI xs i
  | .scr ns, .int i => (atI ns i).map D.int
  | _, _ => none
theorem ok_item {K : KW} : OkR K (rIx K) (pE K) fItem := by
  intro F H x y dx dy d Q s rx ry e k
  cases dx with
  | str z =>
    cases dy with
    | int i =>
      replace e : (if z.length <= TOP then (atI z.cps.toList i).map (fun c => D.str ⟨#[c]⟩) else none) = some d := e
      split at e
      · rename_i hc
        cases q : atI z.cps.toList i with
        | none => rw [q] at e; cases e
        | some c =>
          rw [q] at e
          cases e
          exact .inr (.inr ⟨z, i, c, rx.str, ry.int, top_line hc, q, k _ F H (.refl s) rfl⟩)
      · cases e
    | _ => cases e
  | lst xs => exact ok_ix F H x y _ dy d Q s rx ry (by cases dy <;> first | exact e | cases e) k
  | tup xs => exact ok_ix F H x y _ dy d Q s rx ry (by cases dy <;> first | exact e | cases e) k
  | scr xs => exact ok_ix F H x y _ dy d Q s rx ry (by cases dy <;> first | exact e | cases e) k
  | _ => cases dy <;> cases e
theorem de_item2 (ha : DR X B a ga) (hb : DR X B b gb) (hs : PlainIx b) : DE X B (.Subscript a b pos) (g2 fItem ga gb) := de_ix ix_seq ok_item ha hb hs
theorem strsAre_of : ∀ {ys : List Str} {us : List Value}, Vals (ys.map V.str) us -> StrsAre us ys
  | [], _, .nil => .nil
  | y :: ys, _, .cons r t => by
    obtain ⟨k, rfl⟩ := r
    exact .cons y k (strsAre_of t)
def rJoin (K : KW) : V -> List V -> Hp -> VK -> Prop := fun x vs H Q => ∃ z a ys, x = .str z /\ vs = [.ref a] /\ SqL K H a (ys.map V.str) /\ (ys.map (·.length)).sum + ys.length * z.length <= 16777216 /\ Q (.str (Txt.join z ys)) H
theorem mt_join : MtR X "str.join" (rJoin X.kw) := by
  intro pins s σ H x vs v us Q I rx rv h
  obtain ⟨z, a, ys, rfl, rfl, hq, hz, q⟩ := h
  obtain ⟨t, rfl⟩ := rx
  obtain ⟨u, rfl, ru⟩ := rv.one
  cases ru
  obtain ⟨its, r, pl, _⟩ := I.list hq
  exact join_list pl.isList (by simpa using strsAre_of r) hz fun t' k => ⟨.str _, H, I.tok _, ⟨_, rfl⟩, q⟩
def asSs : List D -> Option (List Str)
  | [] => some []
  | .str x :: r => (asSs r).map (x :: ·)
  | _ => none
theorem asSs_rps {K : KW} {F : Hp} : ∀ {ds : List D} {vs : List V} {bs : List Str}, asSs ds = some bs -> Rps K F ds vs -> vs = bs.map V.str
  | [], _, _, e, h => by cases e; cases h; rfl
  | .str b :: r, _, _, e, ⟨v, w, e1, h, t⟩ => by
    subst e1; cases h
    cases q : asSs r with
    | none => rw [show asSs (.str b :: r) = (asSs r).map (b :: ·) from rfl, q] at e; cases e
    | some bs =>
      rw [show asSs (.str b :: r) = (asSs r).map (b :: ·) from rfl, q] at e
      cases e
      rw [asSs_rps q t]; rfl
  | .non :: _, _, _, e, _ => by cases e
  | .int _ :: _, _, _, e, _ => by cases e
  | .bl _ :: _, _, _, e, _ => by cases e
  | .lst _ :: _, _, _, e, _ => by cases e
  | .tup _ :: _, _, _, e, _ => by cases e
  | .scr _ :: _, _, _, e, _ => by cases e
  | .obj _ _ _ :: _, _, _, e, _ => by cases e
def fJoin : D -> List D -> Option D
  | .str z, [.lst ds] => (asSs ds).bind fun ys => if (ys.map (·.length)).sum + ys.length * z.length <= TOP then some (.str (Txt.join z ys)) else none
  | _, _ => none
def gSM (f : D -> List D -> Option D) (go : EnvD -> Option D) (gs : EnvD -> Option (List D)) : EnvD -> Option D := fun ρ => (go ρ).bind fun d => (gs ρ).bind fun ds => f d ds
theorem de_join (ho : DR X B o go) (ha : DRs X B [e] gs)
    (hbase : attributeBase o "join" X.env (eval o X.env) = eval o X.env := by rfl)
    (hfew : ((backTo cpos (starEach [e] X.env)).all (fun x => !x.1) && (backToKw cpos (keywordEach [] X.env)).all (fun x => x.1.isSome)
      && decide (([e] : List Expr).length + ([] : List Keyword).length + (if ([] : List Keyword).isEmpty then 0 else 1) < 30)) = true := by rfl)
    (hline : (apos.endLine == cpos.line) = true := by rfl) (hs : starEach [e] X.env = (false, eval e X.env) :: starEach [] X.env := by rfl) (hplain : (backTo cpos (starEach [] X.env)).any (·.1) = false := by rfl) :
    DE X B (.Call (.Attribute o "join" apos) [e] [] cpos) (gSM fJoin go gs) :=
  pe_imp (pe_bm PySem.F.plainAttrs_str PySem.F.slot_str_join PySem.F.type_str_join mt_join ho ha hbase hfew hline hs hplain) fun σ H Q ⟨F, ρ, d, r, hg, k⟩ => by
    obtain ⟨d1, ds, q1, q2, q3⟩ := bind2 hg
    unfold fJoin at q3
    split at q3
    · rename_i z xs
      cases q4 : asSs xs with
      | none => rw [q4] at q3; cases q3
      | some ys =>
        rw [q4] at q3
        replace q3 : (if (ys.map (·.length)).sum + ys.length * z.length <= TOP then some (D.str (Txt.join z ys)) else none) = some d := q3
        split at q3
        · rename_i hc
          cases q3
          refine ⟨F, ρ, _, r, q1, fun v F1 H1 e1 p1 => ?_⟩
          cases p1.str
          refine ⟨rfl, F1, ρ, _, r.ext e1, q2, fun vs F2 H2 e2 p2 => ?_⟩
          obtain ⟨w, rfl, rw'⟩ := pair1 p2
          obtain ⟨a, us, rfl, h1, h2⟩ := rw'.lst e2.fh
          have := asSs_rps q4 h2
          subst this
          exact ⟨z, a, ys, rfl, rfl, .of h1, Nat.le_trans hc (by decide), k _ F2 H2 (e1.trans e2) rfl⟩
        · cases q3
    · cases q3
def rCatS (K : KW) : R2 := fun x y H Q => ∃ l b xs zs, x = .ref l /\ y = .ref b /\ SqL K H l xs /\ SqL K H b zs /\ xs.length + zs.length <= sizeLine /\ ∀ p, H p = none -> Q (.ref p) (upd H p (.lst (xs ++ zs)))
theorem op_catS : OpR X (binaryOp .Add) (rCatS X.kw) := by
  intro pins s σ H x y v u Q I rx ry h
  obtain ⟨l, b, xs, zs, rfl, rfl, hH, hB, hz, q⟩ := h
  cases rx
  cases ry
  obtain ⟨its, r, pl, z⟩ := I.list hH
  obtain ⟨its2, r2, pl2, z2⟩ := I.list hB
  obtain ⟨⟨cls, dd, data, sl⟩, n, ho, hc, hd', hd⟩ := pl
  obtain ⟨⟨cls2, dd2, data2, sl2⟩, n2, ho2, hc2, hd2', hd2⟩ := pl2
  simp only at hc hd hc2 hd2
  subst hc hd hc2 hd2
  have e : its.toArray ++ its2.toArray = (its ++ its2).toArray := by simp
  have l1 := r.length
  have l2 := r2.length
  refine concat_meets ⟨_, ho, rfl⟩ ⟨_, ho2, rfl⟩ noFill_list_add seq_list_add PySem.F.slot_list_add PySem.F.entry_list_add (PySem.F.args_list_add_2 _ _) (list_addW l b its.toArray its2.toArray n n2 dd dd2 sl sl2 (by simp; omega)) ⟨ho, ho2, ?_⟩
  rw [e]
  exact ⟨.ref _, _, I.lnew (t' := s.toks) (r.append r2) (by rw [List.length_append]; omega), rfl, q _ I.fresh⟩
def fCatS : D -> D -> Option (List D) := fun x y => (itL x).bind fun xs => (itL y).bind fun ys => if xs.length + ys.length <= TOP then some (xs ++ ys) else none
theorem ok_catS {K : KW} : OkR K (rCatS K) (pA K) fCatS := by
  intro F H x y dx dy d Q s rx ry e k
  unfold fCatS at e
  obtain ⟨xs, ys, q1, q2, q3⟩ := bind2 e
  split at q3
  · rename_i hc
    cases q3
    obtain ⟨l, vs, rfl, h2, h1⟩ := rq_items rx q1
    obtain ⟨b, ws, rfl, h4, h3⟩ := rq_items ry q2
    refine ⟨l, b, vs, ws, rfl, rfl, h1 F H (Same.refl _) s (Same.refl _), h3 F H (Same.refl _) s (Same.refl _), top_line (by rw [<- h2.length, <- h4.length]; exact hc), fun p hp => k _ F _ (.new s hp) ⟨p, _, rfl, hp, upd_same, s.free hp, h2.append h4⟩⟩
  · cases q3
theorem da_catS (ha : DR X B a ga) (hb : DR X B b gb) : DA X B (.BinOp a .Add b pos) (g2 fCatS ga gb) := da_op op_catS ok_catS ha hb
def whileD (t : EnvD -> Option Bool) (gb : SD) : Nat -> EnvD -> Option Fl
  | 0, _ => none
  | n + 1, ρ => (t ρ).bind fun b => if b then (gb ρ).bind fun fl => match fl with
    | .next ρ2 => whileD t gb n ρ2
    | .cont ρ2 => whileD t gb n ρ2
    | .brk ρ2 => some (.next ρ2)
    | .ret o => some (.ret o)
    else some (.next ρ)
open Classical in
def MutOk (K : KW) (r : V -> List V -> Hp -> VK -> Prop) (f : List D -> List D -> Option (List D)) : Prop :=
  ∀ F H a vs ds us es ds' Q, H a = some (.lst vs) -> Rps K F ds vs -> Paired (fun d v => Rp K F d v) es us -> f ds es = some ds' -> (∀ v vs', Rps K F ds' vs' -> Q v (upd H a (.lst vs'))) -> r (.ref a) us H Q
variable {nm : Str} {id : String} {r : V -> List V -> Hp -> VK -> Prop} {f : List D -> List D -> Option (List D)}
theorem comp_t {own : List Str} {cap : List (Str × Nat)} {t : Tgt} {tc : EnvD -> Option Bool} {ge : EnvD -> Option D} {gi : EnvD -> Option (List D)} (ht : ∀ i ∈ t.slots, i < own.length) :
    ∀ σ H Q, lG X.kw B (pA X.kw) (gComp own cap t tc ge gi) σ H Q -> tComp (lI X.kw B (fun H => H) gi) own cap (tgT X.kw t) (fun σ H Q => ∃ B', lT X.kw B' tc σ H Q) (fun σ H Q => ∃ B', lG X.kw B' (pE X.kw) ge σ H Q) σ H Q := by
  intro σ H Q ⟨F, ρ, out, r, hg, k⟩
  unfold gComp at hg
  cases q : gi ρ with
  | none => rw [q] at hg; cases hg
  | some ds =>
    rw [q] at hg
    have hg : (if ds.length <= TOP then compD t tc ge (List.replicate own.length none ++ capE ρ cap) ds else none) = some out := hg
    split at hg
    · rename_i htop
      refine ⟨F, ρ, ds, r, q, fun J F1 H1 e1 jok => ?_⟩
      refine ⟨fun i m ys H2 => m = ds.length - i /\ i <= ds.length /\ ∃ F2 o1 o2, Ext F1 H1 F2 H2 /\ Rps X.kw F2 o1 ys /\ o1.length <= i /\ compD t tc ge (List.replicate own.length none ++ capE ρ cap) (ds.drop i) = some o2 /\ out = o1 ++ o2,
        ⟨ds.length, rfl, Nat.zero_le _, F1, [], out, .refl e1.fh, rfl, Nat.le_refl _, hg, rfl⟩, ?_⟩
      rintro i m ys H2 ⟨rfl, hi, F2, o1, o2, e2, ry, hl1, h2, rfl⟩
      refine ⟨top_line (by rw [<- ry.length]; omega), ?_⟩
      obtain ⟨j1, j2⟩ := jok F2 H2 e2.ff e2.fh e2.hh i
      by_cases hlt : i < ds.length
      · obtain ⟨go, yl⟩ := j1 hlt
        refine .inr ⟨go, fun ys' H' => ∃ F3 p1 p2, Ext F1 H1 F3 H' /\ Rps X.kw F3 p1 ys' /\ p1.length <= i + 1 /\ compD t tc ge (List.replicate own.length none ++ capE ρ cap) (ds.drop (i + 1)) = some p2 /\ o1 ++ o2 = p1 ++ p2, fun ys' H' ⟨F3, p1, p2, e3, r3, l3, h3, eo⟩ => ⟨ds.length - (i + 1), by omega, rfl, hlt, F3, p1, p2, e3, r3, l3, h3, eo⟩, fun x H3 hy σ1 hσ => ?_⟩
        obtain ⟨F3, d, e3, hd, rd⟩ := yl x H3 hy
        have hdd : ds.drop i = d :: ds.drop (i + 1) := by
          rw [List.drop_eq_getElem_cons hlt]
          congr 1
          rw [List.getElem?_eq_getElem hlt] at hd
          exact Option.some.inj hd
        rw [hdd] at h2
        simp only [compD] at h2
        cases q1 : asgD t d (List.replicate own.length none ++ capE ρ cap) with
        | none => rw [q1] at h2; cases h2
        | some ρ1 =>
          rw [q1] at h2
          have e13 := e2.trans e3
          refine tg_ok (cap_rep (own := own) (cap := cap) r e1 e13 hσ) rd q1 fun σ' r4 so => ⟨?_, ?_⟩
          · obtain ⟨σ1', l1, e4⟩ := so.pre (σ1 := σ1) rfl (fun j hj => by rw [hσ]; exact ht j hj)
            exact ⟨σ1', by rw [l1, hσ], e4⟩
          · have h2 : ((tc ρ1).bind fun b => if b then (ge ρ1).bind fun y => (compD t tc ge (List.replicate own.length none ++ capE ρ cap) (ds.drop (i + 1))).map (y :: ·) else compD t tc ge (List.replicate own.length none ++ capE ρ cap) (ds.drop (i + 1))) = some o2 := h2
            cases q2 : tc ρ1 with
            | none => rw [q2] at h2; cases h2
            | some bb =>
              rw [q2] at h2
              refine ⟨⟨F1, H1⟩, F3, ρ1, bb, r4, q2, fun F5 H5 e5 => ?_⟩
              cases bb with
              | false => exact iteF ⟨F5, o1, o2, e13.trans e5, ry.mono (e3.ff.trans e5.ff), by omega, h2, rfl⟩
              | true =>
                have h2 : ((ge ρ1).bind fun y => (compD t tc ge (List.replicate own.length none ++ capE ρ cap) (ds.drop (i + 1))).map (y :: ·)) = some o2 := h2
                cases q3 : ge ρ1 with
                | none => rw [q3] at h2; cases h2
                | some y =>
                  rw [q3] at h2
                  have h2 : (compD t tc ge (List.replicate own.length none ++ capE ρ cap) (ds.drop (i + 1))).map (y :: ·) = some o2 := h2
                  cases q4 : compD t tc ge (List.replicate own.length none ++ capE ρ cap) (ds.drop (i + 1)) with
                  | none => rw [q4] at h2; cases h2
                  | some p2 =>
                    rw [q4] at h2
                    cases h2
                    refine iteT ⟨⟨F1, H1⟩, F5, ρ1, y, r4.ext e5, q3, fun v F6 H6 e6 p6 => ?_⟩
                    exact ⟨F6, o1 ++ [y], p2, e13.trans (e5.trans e6), (ry.mono (e3.ff.trans (e5.ff.trans e6.ff))).snoc p6, by simp; omega, rfl, by simp⟩
      · have hi' : i = ds.length := by omega
        have hdd : ds.drop i = [] := by rw [hi', List.drop_length]
        rw [hdd] at h2
        cases h2
        refine .inl ⟨j2 hi', fun D hD => ?_⟩
        have e := e1.trans e2
        exact k _ F2 _ (e.trans (.new e.fh hD)) ⟨D, ys, rfl, e.hh.free hD, upd_same, e.fh.free hD, by simpa using ry⟩
    · cases hg
theorem frz_t {gl : EnvD -> Option (List D)} {σ : St} {H : Hp} {Q : VK} (h : lG X.kw B (pE X.kw) (gFz gl) σ H Q) : lG X.kw B (pA X.kw) gl σ H Q := by
  obtain ⟨F, ρ, x, r, hg, k⟩ := h
  unfold gFz at hg
  cases q : gl ρ with
  | none => rw [q] at hg; cases hg
  | some ds =>
    rw [q] at hg; cases hg
    refine ⟨F, ρ, ds, r, q, fun v F' H' e p => ?_⟩
    obtain ⟨a, vs, rfl, p1, p2, p3, p4⟩ := p
    exact k _ (upd F' a (.lst vs)) H' (e.freeze p1 p3 p2) ⟨a, vs, rfl, upd_same, p4.mono (same_upd p3)⟩
section
variable {i : Nat} {y : Str} {py spos : Pos} {elt tg iter : Expr} {ifs : List Expr} {scope : Scope} {own : List Str} {cap : List (Str × Nat)} {t : Tgt} {tc : EnvD -> Option Bool} {ge : EnvD -> Option D} {gi : EnvD -> Option (List D)}
theorem ps_lcD (hc : X.calm = true) (S : CompScope X scope own cap) (hi : DI X B (fun H => H) tg iter gi)
    (hin : ∀ (B' : Bs) C s₀ H₀ fp pn, PG (cxc X scope C (own ++ cap.map (·.1)) s₀ H₀ fp pn) tg (tgT X.kw t) /\ DIfs (cxc X scope C (own ++ cap.map (·.1)) s₀ H₀ fp pn) B' ifs tc /\ DE (cxc X scope C (own ++ cap.map (·.1)) s₀ H₀ fp pn) B' elt ge)
    (hN : X.N.Nodup) (hiy : X.N[i]? = some y) (hy : Loc X.env.scope y) (hsw : swapsWith (.ListComp elt [⟨tg, iter, ifs, 0⟩] scope pos) (some (.Name y py)) spos.line X.env = pure true)
    (hs : ∀ x, foldedSetIterable iter X.env x = pure x) (hfn : X.fn y = true ∨ X.env.scope.names.lookup y = some .local) :
    PS X (.Assign [.Name y py] (.ListComp elt [⟨tg, iter, ifs, 0⟩] scope pos) spos) (tAsg (tComp (lI X.kw B (fun H => H) gi) own cap (tgT X.kw t) (fun σ H Q => ∃ B', lT X.kw B' tc σ H Q) (fun σ H Q => ∃ B', lG X.kw B' (pE X.kw) ge σ H Q)) (gName i)) :=
  ps_lcset (tc := fun σ H Q => ∃ B', lT X.kw B' tc σ H Q) (te := fun σ H Q => ∃ B', lG X.kw B' (pE X.kw) ge σ H Q) hc S hi (fun C s₀ H₀ fp pn => ⟨(hin ⟨H₀, H₀⟩ C s₀ H₀ fp pn).1, fun pins s σ H Q I ⟨B', q⟩ => (hin B' C s₀ H₀ fp pn).2.1 pins s σ H Q I q, fun pins s σ H Q I ⟨B', q⟩ => (hin B' C s₀ H₀ fp pn).2.2 pins s σ H Q I q⟩) hN hiy hy hsw hs hfn
theorem ds_setC (hc : X.calm = true) (S : CompScope X scope own cap) (hi : DI X B (fun H => H) tg iter gi) (ht : ∀ i ∈ t.slots, i < own.length)
    (hin : ∀ (B' : Bs) C s₀ H₀ fp pn, PG (cxc X scope C (own ++ cap.map (·.1)) s₀ H₀ fp pn) tg (tgT X.kw t) /\ DIfs (cxc X scope C (own ++ cap.map (·.1)) s₀ H₀ fp pn) B' ifs tc /\ DE (cxc X scope C (own ++ cap.map (·.1)) s₀ H₀ fp pn) B' elt ge)
    (hN : X.N.Nodup) (hiy : X.N[i]? = some y) (hy : Loc X.env.scope y) (hsw : swapsWith (.ListComp elt [⟨tg, iter, ifs, 0⟩] scope pos) (some (.Name y py)) spos.line X.env = pure true := by rfl)
    (hs : ∀ x, foldedSetIterable iter X.env x = pure x := by intro _; rfl) (hfn : X.fn y = true ∨ X.env.scope.names.lookup y = some .local := by first | exact .inl rfl | exact .inr rfl | assumption) :
    DS X B (.Assign [.Name y py] (.ListComp elt [⟨tg, iter, ifs, 0⟩] scope pos) spos) (sSet i (gFz (gComp own cap t tc ge gi))) :=
  ps_imp (ps_lcD hc S hi hin hN hiy hy hsw hs hfn) fun E σ H h => comp_t ht σ H _ (frz_t (set_ok h))
end
end
def pH (K : KW) : Post D := fun _ _ _ H' d v => Rp K H' d v
def DH (X : Cx) (B : Bs) (e : Expr) (g : EnvD -> Option D) : Prop := PE X e (lG X.kw B (pH X.kw) g)
section
variable {X : Cx} {B : Bs} {e a b c o : Expr} {es : List Expr} {pos p p2 apos cpos : Pos} {g ga gb go : EnvD -> Option D} {gs : EnvD -> Option (List D)} {x : Str}
theorem Rq.heap {K : KW} {F H : Hp} (s : Same F H) {d : D} {v : V} (r : Rq K F H d v) : Rp K H d v := by
  rcases r with r | ⟨a, vs, ds, rfl, rfl, e3, e4⟩
  · exact r.mono s
  · exact ⟨a, vs, rfl, e3, e4.mono s⟩
theorem DR.heap (h : DR X B e g) : DH X B e g := pe_imp h fun σ H Q ⟨F, ρ, x, r, hg, k⟩ => ⟨F, ρ, x, r, hg, fun v F' H' e p => k v F' H' e (p.heap e.fh)⟩
def gh (i : Nat) : EnvD -> Option D := fun ρ => match ρ[i]? with
  | some (some (.val d)) => some d
  | some (some (.acc ds)) => some (.lst ds)
  | some (some (.bor ds)) => some (.lst ds)
  | some (some (.tre t)) => some t.erase
  | _ => none
theorem dh_var (i : Nat) (h : PE X (.Name x pos) (tVar i)) : DH X B (.Name x pos) (gh i) :=
  pe_imp h fun σ H Q ⟨F, ρ, d, r, hg, k⟩ => by
    unfold gh at hg
    split at hg
    · rename_i d' e
      cases hg
      obtain ⟨v, h1, h2⟩ := r.ents i _ e
      exact ⟨v, h1, k v F H (.refl r.fh) (Rp.mono r.fh h2)⟩
    · rename_i ds e
      cases hg
      obtain ⟨v, h1, a, vs, e1, e2, e3, e4, e5⟩ := r.ents i _ e
      exact ⟨v, h1, k v F H (.refl r.fh) ⟨a, vs, e1, e2, e5.mono r.fh⟩⟩
    · rename_i ds e
      cases hg
      obtain ⟨v, h1, a, vs, e1, e2, e5⟩ := r.ents i _ e
      exact ⟨v, h1, k v F H (.refl r.fh) ⟨a, vs, e1, r.ex.hh _ _ e2, e5.mono r.fh⟩⟩
    · rename_i t e
      cases hg
      obtain ⟨v, h1, h2, _⟩ := r.ents i _ e
      exact ⟨v, h1, k v F H (.refl r.fh) (RepO.read r.fh h2)⟩
    · cases hg
theorem OkR.heap {K : KW} {r : R2} {f : D -> D -> Option D} (hr : OkR K r (pE K) f) {H : Hp} {x y : V} {dx dy d : D} {Q : VK} (rx : Rp K H dx x) (ry : Rp K H dy y) (e : f dx dy = some d) (k : ∀ v H', Same H H' -> Rp K H' d v -> Q v H') : r x y H Q :=
  hr H H x y dx dy d Q (Same.refl H) (.inl rx) (.inl ry) e fun v F' H' ex p => k v H' ex.hh (Rp.mono ex.fh p)
theorem ext_grow {F H H' : Hp} (s : Same F H) (h : Same H H') : Ext F H F H' := ⟨Same.refl _, h, s.trans h, fun _ q => .inl q⟩
theorem opH {r : R2} {f : D -> D -> Option D} (hr : OkR X.kw r (pE X.kw) f) {σ : St} {H : Hp} {Q : VK} (h : lG X.kw B (pH X.kw) (g2 f ga gb) σ H Q) : tOp r (lG X.kw B (pH X.kw) ga) (lG X.kw B (pH X.kw) gb) σ H Q := by
  obtain ⟨F, ρ, d, rr, hg, k⟩ := h
  obtain ⟨dx, dy, qa, qb, qf⟩ := bind2 hg
  refine ⟨F, ρ, dx, rr, qa, fun x F1 H1 e1 p1 => ⟨F1, ρ, dy, rr.ext e1, qb, fun y F2 H2 e2 p2 => ?_⟩⟩
  exact hr.heap (Rp.mono e2.hh p1) p2 qf fun v H' s p => k v F2 H' (e1.trans (e2.trans (ext_grow e2.fh s))) p
theorem dh_item (ha : DH X B a ga) (hb : DH X B b gb) (hs : PlainIx b) : DH X B (.Subscript a b pos) (g2 fItem ga gb) := pe_imp (pe_ix ix_seq ha hb hs) fun σ H Q h => opH ok_item h
theorem dt_cmpH {op : CmpOp} {r : R2} {neg : Bool} (ho : OpR X (compareOp op) r) (hr : OkR X.kw r (pE X.kw) (fEq neg)) (ha : DH X B a ga) (hb : DH X B b gb) (hm : behindInMarks op b = false) : DT X B (.Compare a [op] [b] pos) (gb' (g2 (fEq neg) ga gb)) :=
  pt_imp (pt_cmpR ho ha hb hm) fun σ H Q ⟨F, ρ, c, rr, hg, k⟩ => by
    unfold gb' at hg
    cases q : g2 (fEq neg) ga gb ρ with
    | none => rw [q] at hg; cases hg
    | some d =>
      rw [q] at hg
      have hd : d = .bl c := asB_some hg
      subst hd
      exact opH hr ⟨F, ρ, _, rr, q, fun v F' H' e p => ⟨c, p, k F' H' e⟩⟩
theorem de_isinstH {T : String} {y : Str} (hk : ∀ t b, subT t T = some b -> PySem.W.kitOne X.kw (.type t) (.type T) = some b) (hg : Gl X "isinstance") (hm : X.mg "isinstance" = none) (hgT : Gl X y) (hmT : X.mg y = none) (hvT : bootBuiltins y = some (.type T)) (ha : DH X B a g)
    (hnT : y ≠ "__name__" := by decide) (hdT : (y == ("__debug__" : Str)) = false := by decide)
    (he : starEach [a, .Name y p2] X.env = (false, eval a X.env) :: starEach [.Name y p2] X.env := by rfl) (he2 : starEach [.Name y p2] X.env = (false, eval (.Name y p2) X.env) :: starEach [] X.env := by rfl) (hpl : (backTo pos (starEach [.Name y p2] X.env)).any (·.1) = false := by rfl) :
    DE X B (.Call (.Name "isinstance" p) [a, .Name y p2] [] pos) (gIs T g) :=
  pe_imp (pe_callB (call_isinst (T := T) hk) hg hm (by decide +kernel) (pa_cons ha (pa_cons (pe_bltn hgT hmT hvT (v := .ty T) rfl hnT hdT) pa_nil he2) he) (by decide) (by decide) he hpl) fun σ H Q ⟨F, ρ, d, r, hg, k⟩ => by
    unfold gIs at hg
    cases q : g ρ with
    | none => rw [q] at hg; cases hg
    | some x =>
      rw [q] at hg
      have hg : ((tyD x).bind fun t => (subT t T).map D.bl) = some d := hg
      cases q2 : tyD x with
      | none => rw [q2] at hg; cases hg
      | some t =>
        rw [q2] at hg
        have hg : (subT t T).map D.bl = some d := hg
        cases q3 : subT t T with
        | none => rw [q3] at hg; cases hg
        | some y =>
          rw [q3] at hg
          cases hg
          exact ⟨F, ρ, x, r, q, fun v F1 H1 e1 p1 => ⟨v, t, y, rfl, ty_of (Same.refl H1) (.inl p1) q2, q3, k _ F1 H1 e1 rfl⟩⟩
def pT (K : KW) : Post OT := fun _ H F' H' t v => RepO K F' H' t v /\ (feetO H' t v).Nodup /\ ∀ a ∈ feetO H' t v, H a = none /\ F' a = none
def DTr (X : Cx) (B : Bs) (e : Expr) (g : EnvD -> Option OT) : Prop := PE X e (lG X.kw B (pT X.kw) g)
def lTs (K : KW) (B : Bs) (g : EnvD -> Option (List OT)) : TA := fun σ H Q =>
  ∃ F ρ ts, Rep K B F σ H ρ /\ g ρ = some ts /\ ∀ vs F' H', Ext F H F' H' -> RepOs K F' H' ts vs -> (feetOs H' ts vs).Nodup -> (∀ a ∈ feetOs H' ts vs, H a = none /\ F' a = none) -> Q vs H'
def DTrs (X : Cx) (B : Bs) (es : List Expr) (g : EnvD -> Option (List OT)) : Prop := PA X es (lTs X.kw B g)
def lfs (ds : List D) : List OT := ds.map OT.frz
theorem lfs_rep {K : KW} {F H : Hp} : ∀ {ds : List D} {vs : List V}, RepOs K F H (lfs ds) vs ↔ Rps K F ds vs
  | [], _ => Iff.rfl
  | d :: ds, vs => by
    constructor
    · rintro ⟨v, r, e, h, t⟩; exact ⟨v, r, e, h, lfs_rep.mp t⟩
    · rintro ⟨v, r, e, h, t⟩; exact ⟨v, r, e, h, lfs_rep.mpr t⟩
theorem lfs_feet {H : Hp} : ∀ {ds : List D} {vs : List V}, feetOs H (lfs ds) vs = []
  | [], _ => rfl
  | d :: ds, vs => by
    cases vs with
    | nil => rfl
    | cons v r => show feetO H (.frz d) v ++ feetOs H (lfs ds) r = []; rw [lfs_feet]; rfl
def gLf (g : EnvD -> Option D) : EnvD -> Option OT := fun ρ => (g ρ).map OT.frz
def gLs (g : EnvD -> Option (List D)) : EnvD -> Option OT := fun ρ => (g ρ).map fun ds => OT.lst (lfs ds)
theorem DE.tree (h : DE X B e g) : DTr X B e (gLf g) := pe_imp h fun σ H Q ⟨F, ρ, t, r, hg, k⟩ => by
  unfold gLf at hg
  cases q : g ρ with
  | none => rw [q] at hg; cases hg
  | some d => rw [q] at hg; cases hg; exact ⟨F, ρ, d, r, q, fun v F' H' e p => k v F' H' e ⟨p, List.nodup_nil, fun a ha => by cases ha⟩⟩
theorem DA.tree {gl : EnvD -> Option (List D)} (h : DA X B e gl) : DTr X B e (gLs gl) := pe_imp h fun σ H Q ⟨F, ρ, t, r, hg, k⟩ => by
  unfold gLs at hg
  cases q : gl ρ with
  | none => rw [q] at hg; cases hg
  | some ds =>
    rw [q] at hg; cases hg
    refine ⟨F, ρ, ds, r, q, fun v F' H' e p => k v F' H' e ?_⟩
    obtain ⟨a, vs, rfl, p1, p2, p3, p4⟩ := p
    have hf : feetO H' (.lst (lfs ds)) (.ref a) = [a] := by simp only [feetO, itemsH_lst p2, lfs_feet]
    refine ⟨⟨a, vs, rfl, p2, lfs_rep.mpr p4⟩, by rw [hf]; simp, fun b hb => ?_⟩
    rw [hf, List.mem_singleton] at hb
    subst hb
    exact ⟨p1, p3⟩
def tNl : EnvD -> Option (List OT) := fun _ => some []
def tCn (g : EnvD -> Option OT) (gs : EnvD -> Option (List OT)) : EnvD -> Option (List OT) := fun ρ => (g ρ).bind fun d => (gs ρ).bind fun ds => some (d :: ds)
variable {gt' : EnvD -> Option OT} {gts : EnvD -> Option (List OT)}
theorem dtrs_nil : DTrs X B [] tNl := pa_imp pa_nil fun σ H Q ⟨F, ρ, ds, r, hg, k⟩ => by cases hg; exact k [] F H (.refl r.fh) rfl List.nodup_nil (fun a ha => by cases ha)
theorem dtrs_cons (ha : DTr X B e gt') (hr : DTrs X B es gts) (hs : starEach (e :: es) X.env = (false, eval e X.env) :: starEach es X.env := by rfl) : DTrs X B (e :: es) (tCn gt' gts) :=
  pa_imp (pa_cons ha hr hs) fun σ H Q ⟨F, ρ, ds, r, hg, k⟩ => by
    obtain ⟨t, ts, q1, q2, q3⟩ := bind2 hg
    cases q3
    refine ⟨F, ρ, t, r, q1, fun v F1 H1 e1 ⟨p1, p2, p3⟩ => ⟨F1, ρ, ts, r.ext e1, q2, fun vs F2 H2 e2 s1 s2 s3 => ?_⟩⟩
    obtain ⟨u1, u2⟩ := RepO.ext e2.ff e2.hh p1
    have hfe : feetOs H2 (t :: ts) (v :: vs) = feetO H1 t v ++ feetOs H2 ts vs := by rw [<- u2]; rfl
    refine k _ F2 H2 (e1.trans e2) ⟨v, vs, rfl, u1, s1⟩ ?_ fun a ha => ?_
    · rw [hfe, List.nodup_append]
      refine ⟨p2, s2, fun a ha b hb hab => ?_⟩
      subst hab
      exact RepO.feet p1 ha (s3 a hb).1
    · rw [hfe, List.mem_append] at ha
      rcases ha with ha | ha
      · exact ⟨(p3 a ha).1, keep_none e2 (p3 a ha).2 (RepO.feet p1 ha)⟩
      · exact ⟨e1.hh.free (s3 a ha).1, (s3 a ha).2⟩
def gTupT (gs : EnvD -> Option (List OT)) : EnvD -> Option OT := fun ρ => (gs ρ).bind fun ts => if ts.length <= TOP then some (.tup ts) else none
theorem RepOs.length {K : KW} {F H : Hp} : ∀ {ts : List OT} {vs : List V}, RepOs K F H ts vs -> ts.length = vs.length
  | [], _, h => by cases h; rfl
  | _ :: _, _, ⟨_, _, e, _, t⟩ => by subst e; simp [RepOs.length t]
theorem dtr_tup {x1} (h : DTrs X B es gts) : DTr X B (.Tuple es x1 pos) (gTupT gts) :=
  pe_imp (pe_tup h) fun σ H Q ⟨F, ρ, t, r, hg, k⟩ => by
    unfold gTupT at hg
    cases q : gts ρ with
    | none => rw [q] at hg; cases hg
    | some ts =>
      rw [q] at hg
      have hg : (if ts.length <= TOP then some (OT.tup ts) else none) = some t := hg
      split at hg
      · rename_i hc
        cases hg
        refine ⟨F, ρ, ts, r, q, fun vs F1 H1 e1 p1 p2 p3 => ⟨top_line (by rw [<- p1.length]; exact hc), fun p hp => ?_⟩⟩
        have hn : p ∉ feetOs H1 ts vs := fun z => RepOs.feet p1 z hp
        obtain ⟨u1, u2⟩ := RepOs.other (o := .tup vs) p1 hn
        have hf : feetO (upd H1 p (.tup vs)) (.tup ts) (.ref p) = p :: feetOs H1 ts vs := by simp only [feetO, itemsH_tup upd_same, u2]
        refine k _ F1 _ (e1.trans (.new e1.fh hp)) ⟨⟨p, vs, rfl, upd_same, u1⟩, by rw [hf]; exact List.nodup_cons.mpr ⟨hn, p2⟩, fun a ha => ?_⟩
        rw [hf, List.mem_cons] at ha
        rcases ha with rfl | ha
        · exact ⟨e1.hh.free hp, e1.fh.free hp⟩
        · exact p3 a ha
      · cases hg
def treO : En -> Option OT
  | .tre t => some t
  | _ => none
variable {gxs : EnvD -> Option (List En)} {n k : Nat} {m : List En -> Option En}
theorem call_T {n : Nat} {m : List En -> Option En} (hm : ∀ xs o, m xs = some o -> xs.length = n) {E : XK} {σ : St} {H : Hp} {Q : VK} (h : lG X.kw B (pT X.kw) (gCall m treO gxs) σ H Q) : tCall (pSp X.kw n m) [] E (lNs X.kw B gxs) σ H Q := by
  obtain ⟨F, ρ, d, r, hg, k⟩ := h
  obtain ⟨xs, o, q1, q2, q3⟩ := bindC hg
  refine ⟨F, ρ, xs, r, q1, fun vs F1 H1 e1 p1 => ?_⟩
  show pSp X.kw n m (vs ++ []) H1 Q E
  rw [List.append_nil]
  refine ⟨F1, xs, o, e1.fh, hm xs o q2, p1, q2, fun v F2 H2 e2 p2 => ?_⟩
  cases o with
  | tre t =>
    cases q3
    obtain ⟨h1, h2, h3⟩ := p2
    exact k v F2 H2 (e1.trans e2) ⟨h1, h2, fun a ha => ⟨e1.hh.free (h3 a ha).2, (h3 a ha).1⟩⟩
  | _ => cases q3
theorem dtr_callF (h : Fx X.prog X.w X.kw X.mg X.base x k n m) (hr : Room k X.A) (hg : Gl X x) (ha : DNs X B (e :: es) gxs) (hdb : (x == ("__debug__" : Str)) = false := by decide +kernel)
    (he : starEach (e :: es) X.env = (false, eval e X.env) :: starEach es X.env := by rfl) (hpl : (backTo pos (starEach es X.env)).any (·.1) = false := by rfl) : DTr X B (.Call (.Name x p) (e :: es) [] pos) (gCall (len? n m) treO gxs) := by
  obtain ⟨f, fd, ps, F, hm, hk, hb⟩ := h.ex
  exact pe_imp (pe_call F hr hg hm hk hb .nil pass0 ha hdb he hpl) fun σ H Q h => call_T len_of h
def sRetT (g : EnvD -> Option OT) : SD := fun ρ => (g ρ).map fun t => .ret (.tre t)
theorem ds_retT (he : DTr X B e gt') : DS X B (.Return (some e) pos) (sRetT gt') := ps_imp (ps_ret he) fun E σ H ⟨F, ρ, fl, r, hg, k⟩ => by
  unfold sRetT at hg
  cases q : gt' ρ with
  | none => rw [q] at hg; cases hg
  | some t =>
    rw [q] at hg; cases hg
    exact ⟨F, ρ, t, r, q, fun v F1 H1 e1 ⟨p1, p2, p3⟩ => k v F1 H1 (r.ex.trans e1) ⟨p1, p2, fun a ha => ⟨(p3 a ha).2, r.ex.hh.free (p3 a ha).1⟩⟩⟩
def sSetT (i : Nat) (g : EnvD -> Option OT) : SD := fun ρ => (g ρ).map fun t => .next (ρ.set i (some (.tre t)))
theorem ds_setT {i : Nat} {y : Str} {pos' : Pos} (hN : X.N.Nodup) (hi : X.N[i]? = some y) (hx : Loc X.env.scope y) (he : DTr X B e gt') (hs : swapsWith e (some (.Name y pos')) pos.line X.env = pure false := by rfl) (hf : X.fn y = true ∨ X.env.scope.names.lookup y = some .local := by first | exact .inl rfl | exact .inr rfl | assumption) :
    DS X B (.Assign [.Name y pos'] e pos) (sSetT i gt') := ps_imp (ps_set hN hi hx he hs hf) fun E σ H ⟨F, ρ, fl, r, hg, k⟩ => by
  unfold sSetT at hg
  cases q : gt' ρ with
  | none => rw [q] at hg; cases hg
  | some t =>
    rw [q] at hg; cases hg
    refine ⟨F, ρ, t, r, q, fun v F1 H1 e1 ⟨p1, p2, p3⟩ => k _ F1 H1 ((r.ext e1).seto (x := .tre t) ⟨p1, p2, fun a ha => ⟨(p3 a ha).2, r.ex.hh.free (p3 a ha).1⟩⟩ ?_) e1.ff⟩
    intro j z w hj hs _ a ha hc
    obtain ⟨w', hw, hr⟩ := r.ents j z hj
    rw [hs] at hw; cases hw
    rw [hr.feet_ext e1.hh] at hc
    exact (hr.feet_at hc).1 (p3 a ha).1
mutual
def OT.get : OT -> List Nat -> Option OT
  | t, [] => some t
  | .lst ts, k :: p => gets ts k p
  | .tup ts, k :: p => gets ts k p
  | .frz _, _ :: _ => none
def gets : List OT -> Nat -> List Nat -> Option OT
  | [], _, _ => none
  | t :: _, 0, p => t.get p
  | _ :: ts, k + 1, p => gets ts k p
end
mutual
def OT.put : OT -> List Nat -> OT -> OT
  | _, [], u => u
  | .lst ts, k :: p, u => .lst (puts ts k p u)
  | .tup ts, k :: p, u => .tup (puts ts k p u)
  | .frz d, _ :: _, _ => .frz d
def puts : List OT -> Nat -> List Nat -> OT -> List OT
  | [], _, _, _ => []
  | t :: ts, 0, p, u => t.put p u :: ts
  | t :: ts, k + 1, p, u => t :: puts ts k p u
end
def valAt (H : Hp) : V -> List Nat -> Option V
  | v, [] => some v
  | .ref a, k :: p => ((itemsH H a)[k]?).bind fun w => valAt H w p
  | _, _ :: _ => none
def valsAt (H : Hp) (vs : List V) (k : Nat) (p : List Nat) : Option V := (vs[k]?).bind fun w => valAt H w p
structure At (K : KW) (F H : Hp) (ft : List Addr) (ds : List D) (b : Addr) (vs : List V) : Prop where
  hb : H b = some (.lst vs)
  rp : Rps K F ds vs
  mem : b ∈ ft
mutual
theorem RepO.path {K : KW} {F H : Hp} {ds : List D} : ∀ {t : OT} {v : V} {p : List Nat}, RepO K F H t v -> (feetO H t v).Nodup -> t.get p = some (.lst (lfs ds)) ->
    ∃ b vs, valAt H v p = some (.ref b) /\ At K F H (feetO H t v) ds b vs /\ ∀ ds' vs', Rps K F ds' vs' -> RepO K F (upd H b (.lst vs')) (t.put p (.lst (lfs ds'))) v /\ feetO (upd H b (.lst vs')) (t.put p (.lst (lfs ds'))) v = feetO H t v
  | t, v, [], r, hn, e => by
    have e : t = .lst (lfs ds) := by cases t <;> (simp [OT.get] at e; first | exact e | simp [e] | skip) <;> first | rfl | cases e
    subst e
    obtain ⟨b, vs, rfl, q, r⟩ := r
    refine ⟨b, vs, rfl, ⟨q, lfs_rep.mp r, by simp [feetO]⟩, fun ds' vs' h => ?_⟩
    have ep : (OT.lst (lfs ds)).put [] (.lst (lfs ds')) = .lst (lfs ds') := by simp [OT.put]
    rw [ep]
    exact ⟨⟨b, vs', rfl, upd_same, lfs_rep.mpr h⟩, by simp only [feetO, itemsH_lst q, itemsH_lst upd_same, lfs_feet]⟩
  | .frz _, v, _ :: _, r, hn, e => by simp [OT.get] at e
  | .lst ts, _, k :: p, ⟨a, us, e1, q, r⟩, hn, e => by
    subst e1
    simp only [feetO, itemsH_lst q, List.nodup_cons] at hn
    simp only [OT.get] at e
    obtain ⟨b, vs, h1, ⟨h2, h3, h4⟩, h5⟩ := RepOs.path r hn.2 e
    have hne : a ≠ b := fun z => hn.1 (z ▸ h4)
    refine ⟨b, vs, by simp only [valAt, itemsH_lst q]; exact h1, ⟨h2, h3, by simp only [feetO, itemsH_lst q, List.mem_cons]; exact .inr h4⟩, fun ds' vs' h => ?_⟩
    obtain ⟨k1, k2⟩ := h5 ds' vs' h
    have q' : upd H b (.lst vs') a = some (.lst us) := by rw [upd_ne hne]; exact q
    simp only [OT.put]
    exact ⟨⟨a, us, rfl, q', k1⟩, by simp only [feetO, itemsH_lst q, itemsH_lst q', k2]⟩
  | .tup ts, _, k :: p, ⟨a, us, e1, q, r⟩, hn, e => by
    subst e1
    simp only [feetO, itemsH_tup q, List.nodup_cons] at hn
    simp only [OT.get] at e
    obtain ⟨b, vs, h1, ⟨h2, h3, h4⟩, h5⟩ := RepOs.path r hn.2 e
    have hne : a ≠ b := fun z => hn.1 (z ▸ h4)
    refine ⟨b, vs, by simp only [valAt, itemsH_tup q]; exact h1, ⟨h2, h3, by simp only [feetO, itemsH_tup q, List.mem_cons]; exact .inr h4⟩, fun ds' vs' h => ?_⟩
    obtain ⟨k1, k2⟩ := h5 ds' vs' h
    have q' : upd H b (.lst vs') a = some (.tup us) := by rw [upd_ne hne]; exact q
    simp only [OT.put]
    exact ⟨⟨a, us, rfl, q', k1⟩, by simp only [feetO, itemsH_tup q, itemsH_tup q', k2]⟩
theorem RepOs.path {K : KW} {F H : Hp} {ds : List D} : ∀ {ts : List OT} {us : List V} {k : Nat} {p : List Nat}, RepOs K F H ts us -> (feetOs H ts us).Nodup -> gets ts k p = some (.lst (lfs ds)) ->
    ∃ b vs, valsAt H us k p = some (.ref b) /\ At K F H (feetOs H ts us) ds b vs /\ ∀ ds' vs', Rps K F ds' vs' -> RepOs K F (upd H b (.lst vs')) (puts ts k p (.lst (lfs ds'))) us /\ feetOs (upd H b (.lst vs')) (puts ts k p (.lst (lfs ds'))) us = feetOs H ts us
  | [], _, _, _, _, _, e => by simp [gets] at e
  | t :: ts, _, 0, p, ⟨v, r, e1, h1, h2⟩, hn, e => by
    subst e1
    simp only [feetOs, List.nodup_append] at hn
    simp only [gets] at e
    obtain ⟨b, vs, g1, ⟨g2, g3, g4⟩, g5⟩ := RepO.path h1 hn.1 e
    refine ⟨b, vs, by simpa [valsAt] using g1, ⟨g2, g3, by simp only [feetOs, List.mem_append]; exact .inl g4⟩, fun ds' vs' h => ?_⟩
    obtain ⟨k1, k2⟩ := g5 ds' vs' h
    obtain ⟨o1, o2⟩ := RepOs.other (o := .lst vs') h2 (fun z => hn.2.2 b g4 b z rfl)
    simp only [puts]
    exact ⟨⟨v, r, rfl, k1, o1⟩, by simp only [feetOs, k2, o2]⟩
  | t :: ts, _, k + 1, p, ⟨v, r, e1, h1, h2⟩, hn, e => by
    subst e1
    simp only [feetOs, List.nodup_append] at hn
    simp only [gets] at e
    obtain ⟨b, vs, g1, ⟨g2, g3, g4⟩, g5⟩ := RepOs.path h2 hn.2.1 e
    refine ⟨b, vs, by simpa [valsAt] using g1, ⟨g2, g3, by simp only [feetOs, List.mem_append]; exact .inr g4⟩, fun ds' vs' h => ?_⟩
    obtain ⟨k1, k2⟩ := g5 ds' vs' h
    obtain ⟨o1, o2⟩ := RepO.other (o := .lst vs') h1 (fun z => hn.2.2 b z b g4 rfl)
    simp only [puts]
    exact ⟨⟨v, r, rfl, o1, k1⟩, by simp only [feetOs, k2, o2]⟩
end
end
mutual
theorem RepO.getp {K : KW} {F H : Hp} : ∀ {t : OT} {v : V} {p : List Nat} {u : OT}, RepO K F H t v -> t.get p = some u -> ∃ w, valAt H v p = some w /\ RepO K F H u w
  | t, v, [], u, r, e => by
    have e : t = u := by cases t <;> (simp [OT.get] at e; exact e)
    subst e
    exact ⟨v, rfl, r⟩
  | .frz _, v, _ :: _, u, r, e => by simp [OT.get] at e
  | .lst ts, _, k :: p, u, ⟨a, us, e1, q, r⟩, e => by
    subst e1
    simp only [OT.get] at e
    obtain ⟨w, h1, h2⟩ := RepOs.getp r e
    exact ⟨w, by simp only [valAt, itemsH_lst q]; exact h1, h2⟩
  | .tup ts, _, k :: p, u, ⟨a, us, e1, q, r⟩, e => by
    subst e1
    simp only [OT.get] at e
    obtain ⟨w, h1, h2⟩ := RepOs.getp r e
    exact ⟨w, by simp only [valAt, itemsH_tup q]; exact h1, h2⟩
theorem RepOs.getp {K : KW} {F H : Hp} : ∀ {ts : List OT} {us : List V} {k : Nat} {p : List Nat} {u : OT}, RepOs K F H ts us -> gets ts k p = some u -> ∃ w, valsAt H us k p = some w /\ RepO K F H u w
  | [], _, _, _, _, _, e => by simp [gets] at e
  | t :: ts, _, 0, p, u, ⟨v, r, e1, h1, h2⟩, e => by
    subst e1
    simp only [gets] at e
    obtain ⟨w, g1, g2⟩ := RepO.getp h1 e
    exact ⟨w, by simpa [valsAt] using g1, g2⟩
  | t :: ts, _, k + 1, p, u, ⟨v, r, e1, h1, h2⟩, e => by
    subst e1
    simp only [gets] at e
    obtain ⟨w, g1, g2⟩ := RepOs.getp h2 e
    exact ⟨w, by simpa [valsAt] using g1, g2⟩
end
def OT.size : OT -> Option Nat
  | .lst ts => some ts.length
  | .tup ts => some ts.length
  | .frz _ => none
def unLfs : List OT -> Option (List D)
  | [] => some []
  | .frz d :: ts => (unLfs ts).map (d :: ·)
  | _ :: _ => none
theorem unLfs_eq : ∀ {ts : List OT} {ds : List D}, unLfs ts = some ds -> ts = lfs ds
  | [], _, e => by cases e; rfl
  | .frz d :: ts, ds, e => by
    cases q : unLfs ts with
    | none => rw [show unLfs (.frz d :: ts) = (unLfs ts).map (d :: ·) from rfl, q] at e; cases e
    | some ds' =>
      rw [show unLfs (.frz d :: ts) = (unLfs ts).map (d :: ·) from rfl, q] at e
      cases e
      rw [unLfs_eq q]; rfl
  | .lst _ :: _, _, e => by cases e
  | .tup _ :: _, _, e => by cases e
theorem unLfs_lfs : ∀ (ds : List D), unLfs (lfs ds) = some ds
  | [] => rfl
  | d :: ds => by show (unLfs (lfs ds)).map (d :: ·) = _; rw [unLfs_lfs ds]; rfl
def OT.leaf : OT -> Option (List D)
  | .lst ts => unLfs ts
  | _ => none
theorem leaf_eq {u : OT} {ds : List D} (h : u.leaf = some ds) : u = .lst (lfs ds) := by
  cases u with
  | lst ts => rw [unLfs_eq (show unLfs ts = some ds from h)]
  | _ => cases h
section
variable {X : Cx} {B : Bs} {e a b c o : Expr} {es : List Expr} {pos p p2 apos cpos : Pos} {g ga gb go : EnvD -> Option D} {gs : EnvD -> Option (List D)} {x nm : Str} {gp : EnvD -> Option (List Nat)}
variable {id : String} {r : V -> List V -> Hp -> VK -> Prop} {f : List D -> List D -> Option (List D)}
end
section
variable {ρ : EnvD} {i : Nat} {t : OT} {ga gb : EnvD -> Option D} {gs : EnvD -> Option (List D)} {gp : EnvD -> Option (List Nat)} {ds : List D} {gt' : EnvD -> Option OT} {gts : EnvD -> Option (List OT)} {gl : EnvD -> Option (List D)} {α : Type}
@[simp] theorem ev_gh : gh i ρ = match ρ[i]? with | some (some (.val d)) => some d | some (some (.acc ds)) => some (.lst ds) | some (some (.bor ds)) => some (.lst ds) | some (some (.tre t)) => some t.erase | _ => none := rfl
@[simp] theorem ev_gLf : gLf ga ρ = (ga ρ).map OT.frz := rfl
@[simp] theorem ev_gLs : gLs gl ρ = (gl ρ).map fun ds => OT.lst (lfs ds) := rfl
@[simp] theorem ev_tNl : tNl ρ = some [] := rfl
@[simp] theorem ev_tCn : tCn gt' gts ρ = (gt' ρ).bind fun d => (gts ρ).bind fun ds => some (d :: ds) := rfl
@[simp] theorem ev_gTupT : gTupT gts ρ = (gts ρ).bind fun ts => if ts.length <= TOP then some (.tup ts) else none := rfl
@[simp] theorem ev_treT : treO (.tre t) = some t := rfl
@[simp] theorem ev_treV {d : D} : treO (.val d) = none := rfl
@[simp] theorem ev_treA : treO (.acc ds) = none := rfl
@[simp] theorem ev_sRetT : sRetT gt' ρ = (gt' ρ).map fun t => .ret (.tre t) := rfl
@[simp] theorem ev_sSetT : sSetT i gt' ρ = (gt' ρ).map fun t => .next (ρ.set i (some (.tre t))) := rfl
@[simp] theorem ev_leaf : OT.leaf (.lst (lfs ds)) = some ds := unLfs_lfs ds
@[simp] theorem ev_eraseF {d : D} : (OT.frz d).erase = d := by simp [OT.erase]
@[simp] theorem ev_eraseT {ts : List OT} : (OT.tup ts).erase = .tup (erases ts) := by simp [OT.erase]
@[simp] theorem ev_erases0 : erases [] = [] := by simp [erases]
@[simp] theorem ev_erases1 {ts : List OT} : erases (t :: ts) = t.erase :: erases ts := by simp [erases]
end
section
variable {ρ : EnvD} {i k n m : Nat} {d x y : D} {ds es : List D} {a b j : Int} {α γ : Type} {ga gb gc' g : EnvD -> Option D} {ta tb : EnvD -> Option Bool} {gs : EnvD -> Option (List D)} {s1 s2 : SD} {p q : Str} {ns : List Int}
@[simp] theorem ev_fPlusI : fPlus (.int a) (.int b) = some (.int (a + b)) := rfl
@[simp] theorem ev_fPlusS : fPlus (.str p) (.str q) = if p.length + q.length <= TOP then some (.str (p ++ q)) else none := rfl
@[simp] theorem ev_fItemL : fItem (.lst ds) (.int a) = atI ds a := rfl
@[simp] theorem ev_fItemT : fItem (.tup ds) (.int a) = atI ds a := rfl
@[simp] theorem ev_fItemR : fItem (.scr ns) (.int a) = (atI ns a).map D.int := rfl
theorem ev_fItemS : fItem (.str p) (.int a) = if p.length <= TOP then (atI p.cps.toList a).map fun c => .str ⟨#[c]⟩ else none := rfl
@[simp] theorem ev_gSM {f : D -> List D -> Option D} : gSM f ga gs ρ = (ga ρ).bind fun d => (gs ρ).bind fun ds => f d ds := rfl
@[simp] theorem ev_fJoin : fJoin (.str p) [.lst ds] = (asSs ds).bind fun ys => if (ys.map (·.length)).sum + ys.length * p.length <= TOP then some (.str (Txt.join p ys)) else none := rfl
@[simp] theorem ev_itLs : itL (.scr ns) = some (ns.map D.int) := rfl
@[simp] theorem ev_fCatS : fCatS x y = (itL x).bind fun xs => (itL y).bind fun ys => if xs.length + ys.length <= TOP then some (xs ++ ys) else none := rfl
@[simp] theorem ev_tyR : tyD (.str p) = some "str" := rfl
@[simp] theorem ev_fListR : fList [.scr ns] = some (ns.map D.int) := rfl
theorem fEqB {neg u v : Bool} : fEq neg (.bl u) (.bl v) = some (.bl (if neg then !(u == v) else (u == v))) := by
  cases neg <;> cases u <;> cases v <;> rfl
theorem while_end {t : EnvD -> Option Bool} (h : t ρ = some false) : whileD t s1 (n + 1) ρ = some (.next ρ) := by
  rw [whileD, h]; rfl
theorem while_turn {t : EnvD -> Option Bool} {ρ2 : EnvD} (h : t ρ = some true) (h2 : s1 ρ = some (.next ρ2)) : whileD t s1 (n + 1) ρ = whileD t s1 n ρ2 := by
  rw [whileD, h]
  show ((s1 ρ).bind _) = _
  rw [h2]; rfl
theorem cut_hi {xs : List α} (h : 0 <= a) : cutD xs none (some a) = xs.take a.toNat := by
  simp only [cutD, HT.sIx]
  rw [if_neg (show ¬ a < 0 by omega)]
  simp only [Nat.sub_zero, List.drop_zero]
  by_cases h2 : a.toNat <= xs.length
  · rw [Nat.min_eq_left h2]
  · rw [Nat.min_eq_right (by omega), List.take_of_length_le (Nat.le_refl _), List.take_of_length_le (by omega)]
theorem cut_lo {xs : List α} (h : 0 <= a) : cutD xs (some a) none = xs.drop a.toNat := by
  simp only [cutD, HT.sIx]
  rw [if_neg (show ¬ a < 0 by omega)]
  by_cases h2 : a.toNat <= xs.length
  · rw [Nat.min_eq_left h2]
    exact List.take_of_length_le (by simp)
  · rw [Nat.min_eq_right (by omega), List.drop_of_length_le (Nat.le_refl _), List.drop_of_length_le (by omega)]; simp
theorem cut_map {β : Type} {f : α -> β} {xs : List α} {l h : Option Int} : cutD (xs.map f) l h = (cutD xs l h).map f := by
  unfold cutD; simp [List.map_drop, List.map_take]
theorem atI_pos {xs : List α} (h1 : 0 <= a) (h2 : a < xs.length) : ∃ v, atI xs a = some v /\ xs[a.toNat]? = some v := by
  obtain ⟨n, rfl⟩ : ∃ n : Nat, a = (n : Int) := ⟨a.toNat, by omega⟩
  have hl : n < xs.length := by omega
  exact ⟨xs[n], atI_at n (List.getElem?_eq_getElem hl), by simp [hl]⟩
theorem atI_map {β : Type} {f : α -> β} {xs : List α} : atI (xs.map f) a = (atI xs a).map f := by
  unfold atI
  rw [List.length_map]
  cases ixN xs.length a with
  | none => rfl
  | some j => simp
theorem atI_mem {xs : List α} {v : α} (h : atI xs a = some v) : v ∈ xs := by
  unfold atI at h
  cases q : ixN xs.length a with
  | none => rw [q] at h; cases h
  | some j => rw [q] at h; exact List.mem_of_getElem? h
def Tx (n : Nat) (x : Str) : Prop := PyData.strOk x = true /\ x.length <= n
theorem Tx.mono {x : Str} (h : Tx n x) (e : n <= m) : Tx m x := ⟨h.1, Nat.le_trans h.2 e⟩
theorem Tx.app {x y : Str} (h : Tx n x) (h' : Tx m y) : Tx (n + m) (x ++ y) := by
  refine ⟨?_, ?_⟩
  · show (x.cps ++ y.cps).all _ = true
    rw [Array.all_append]
    exact Bool.and_eq_true_iff.mpr ⟨h.1, h'.1⟩
  · show (x.cps ++ y.cps).size <= n + m
    rw [Array.size_append]
    have h1 := h.2
    have h2 := h'.2
    unfold Str.length at h1 h2
    omega
theorem Tx.slice {x : Str} {l u : Option Int} (h : Tx n x) : Tx n (Txt.slice x l u) := by
  refine ⟨?_, Nat.le_trans (Txt.slice_le x l u) h.2⟩
  unfold Txt.slice
  split
  · exact h.1
  · have h1 := h.1
    unfold PyData.strOk at h1 ⊢
    rw [Array.all_eq_true'] at h1
    rw [Array.all_eq_true']
    intro c hc
    simp only [List.mem_toArray, List.mem_filterMap] at hc
    obtain ⟨i, _, e⟩ := hc
    exact h1 c (Array.mem_of_getElem? e)
theorem Tx.item {z : Str} (h : Tx n z) (hn : n <= TOP) (h1 : 0 <= a) (h2 : a < z.length) : ∃ c, fItem (.str z) (.int a) = some (.str c) /\ Tx 1 c := by
  have hl : (z.cps.toList.length : Int) = z.length := by simp [Str.length]
  obtain ⟨c, e1, e2⟩ := atI_pos (xs := z.cps.toList) h1 (by omega)
  refine ⟨⟨#[c]⟩, ?_, ?_, Nat.le_refl _⟩
  · rw [ev_fItemS, if_pos (Nat.le_trans h.2 hn), e1]; rfl
  · have h1 := h.1
    unfold PyData.strOk at h1
    rw [Array.all_eq_true'] at h1
    have := h1 c (by simpa using List.mem_of_getElem? e2)
    unfold PyData.strOk
    simpa using this
theorem glue_ok (sep : Str) (hs : PyData.strOk sep = true) : ∀ (rest : List Str) (acc : Array Nat), acc.all (· < 0x110000) = true -> (∀ y ∈ rest, PyData.strOk y = true) -> (rest.foldl (fun acc p => acc ++ sep.cps ++ p.cps) acc).all (· < 0x110000) = true
  | [], _, h, _ => h
  | y :: rest, acc, h, hy => by
    rw [List.foldl_cons]
    refine glue_ok sep hs rest _ ?_ fun z hz => hy z (by simp [hz])
    rw [Array.all_append, Array.all_append]
    have h2 : y.cps.all (· < 0x110000) = true := hy y (by simp)
    have h3 : sep.cps.all (· < 0x110000) = true := hs
    rw [h, h2, h3]; rfl
theorem Tx.join0 {ys : List Str} (h : ∀ y ∈ ys, Tx 1 y) : Tx ys.length (Txt.join "" ys) := by
  have e0 : PyData.strOk ("" : Str) = true := by decide +kernel
  refine ⟨?_, ?_⟩
  · show ((ys.drop 1).foldl (fun acc p => acc ++ ("" : Str).cps ++ p.cps) (ys.headD Str.empty).cps).all (· < 0x110000) = true
    refine glue_ok "" e0 (ys.drop 1) _ ?_ fun y hy => (h y (List.mem_of_mem_drop hy)).1
    cases ys with
    | nil => simp [Str.empty]
    | cons y r => exact (h y (by simp)).1
  · show (Builtin.Str.glued "" ys).length <= ys.length
    rw [PySem.size_glued]
    have e1 : ("" : Str).length = 0 := by decide +kernel
    rw [e1, Nat.mul_zero, Nat.add_zero]
    have : ∀ l : List Str, (∀ y ∈ l, Tx 1 y) -> (l.map (·.length)).sum <= l.length := by
      intro l
      induction l with
      | nil => intro _; exact Nat.le_refl _
      | cons y r ih =>
        intro hh
        have h1 := (hh y (by simp)).2
        have h2 := ih fun z hz => hh z (by simp [hz])
        simp only [List.map_cons, List.sum_cons, List.length_cons]
        omega
    exact this ys h
theorem sum_len1 : ∀ {l : List Str}, (∀ y ∈ l, Tx 1 y) -> (l.map (·.length)).sum <= l.length
  | [], _ => Nat.le_refl _
  | y :: r, hh => by
    have h1 := (hh y (by simp)).2
    have h2 := sum_len1 fun z hz => hh z (List.mem_cons_of_mem _ hz)
    simp only [List.map_cons, List.sum_cons, List.length_cons]
    omega
theorem asSs_map : ∀ (ys : List Str), asSs (ys.map D.str) = some ys
  | [] => rfl
  | y :: ys => by simp [asSs, asSs_map ys]
end
def Its (z : Str) : It := ⟨fun i _ => i < z.cps.size, fun i H x H' => H' = H /\ ∃ c, z.cps[i]? = some c /\ x = .str ⟨#[c]⟩, fun i _ => i = z.cps.size⟩
theorem turn_strG {P : Program} {w : World} {K : PySem.W.Frag} {z : Str} {t : Tok} {it : Addr} {n : String}
    (W : ∀ A' : Around, A'.handled = none -> Walks P w A' it [it] [it] z.cps.size (SignAt z) (fun i h => h.IsStrIter it n z t i))
    (sf : ∀ (A : Around) (i : Nat) (s : Shared) (Q : Value -> Shared -> Prop) (E : Value -> Shared -> Prop), s.heap.IsStrIter it n z t i -> Q (.ref it) s -> wpAny (model P w) A (pyIter (.ref it)) Q E s)
    (hn : ["enumerate", "zip", "dict_itemiterator", "dict_reverseitemiterator", "odict_iterator", "itertools.zip_longest", "itertools.pairwise"].contains n = false) {tg : Expr} :
    Turn P w K tg (Its z) [it] it (fun i h => h.IsStrIter it n z t i) where
  mem := by simp
  obj := fun i h st b hb => by
    have e : b = it := by simpa using hb
    subst e
    obtain ⟨o, e, c, d⟩ := st
    exact ⟨o, e, fun v z => by rw [d] at z; cases z⟩
  keep := fun i h h' st k => let ⟨o, e, r⟩ := st; ⟨o, k it (by simp) o e, r⟩
  item := by
    intro X hP hw hK hc i pins s σ H E I hf st hg
    subst hP hw hK
    obtain ⟨f0, f1, f2, f3, f4, f5⟩ := hf it (by simp)
    refine (W X.A (I.ok.hd hc)).item i s _ _ hg st fun v h' tk hv st' kk => ?_
    obtain ⟨c, u, e, rfl⟩ := hv
    have I1 : Inv X pins σ H { s with heap := h', toks := tk } := I.turned (fun b o hb e => kk b o (by simpa using hb) e) f0 f1 f3 f4 f5
    obtain ⟨o, e1, e2, e3⟩ := id st'
    exact ⟨_, rfl, go_of (s := { s with heap := h', toks := tk }) e1 e2 e3 hn ⟨.str ⟨#[c]⟩, H, I1, ⟨u, rfl⟩, ⟨rfl, c, e, rfl⟩, st', fun b hb => (hf b hb).1⟩⟩
  done := by
    intro X hP hw hK hc i pins s σ H E I hf st hg
    subst hP hw hK
    obtain ⟨f0, f1, f2, f3, f4, f5⟩ := hf it (by simp)
    have hg : i = z.cps.size := hg
    subst hg
    exact (W X.A (I.ok.hd hc)).done s _ _ st fun h' tk kk => ⟨rfl, I.turned (t' := tk) (fun b o hb e => kk b o (by simpa using hb) e) f0 f1 f3 f4 f5⟩
  self := sf
def iStr (tl : TE) : TI := fun σ H R => tl σ H fun x H1 => ∃ z, x = .str z /\ R (Its z) H1
theorem pi_str {X : Cx} {tg l : Expr} {tl : TE} (hl : PE X l tl) : PI X tg l (iStr tl) := by
  intro pins s σ H R I h
  refine thn (hl pins s σ H _ I h) fun v s1 ⟨x, H1, I1, r1, q1⟩ => ?_
  obtain ⟨z, rfl, q⟩ := q1
  obtain ⟨t, rfl⟩ := r1
  have fin : ∀ {n : String} (o : Obj), o = { cls := .type n, data := .fields #[.str z t, .int 0 0] } -> Turn X.prog X.w X.kw tg (Its z) [s1.heap.objs.size] s1.heap.objs.size (fun i h => h.IsStrIter s1.heap.objs.size n z t i) -> PIE X pins σ tg R (.ref s1.heap.objs.size) { s1 with heap := s1.heap.push o } := by
    intro n o ho T
    subst ho
    refine ⟨s1.heap.objs.size, [s1.heap.objs.size], _, _, H1, rfl, I1.kept (t' := s1.toks) fun b o e => Heap.get?_push_of_some _ e, T, ⟨_, Heap.get?_push_size _ rfl, rfl, rfl⟩, fun b hb => ?_, q⟩
    have e : b = s1.heap.objs.size := by simpa using hb
    subst e
    exact I1.fpOk (Nat.le_refl _) (I1.hok.fresh (Nat.le_refl _))
  cases ha : z.cps.all (· < 128)
  · exact wpAny_pyIter_wide ha (fin _ rfl (turn_strG (fun A' hA => Walks.strWide hA _ z t) (fun A i s Q E st h => wpAny_pyIter_striter_wide st h) (by decide)))
  · exact wpAny_pyIter_ascii ha (fin _ rfl (turn_strG (fun A' hA => Walks.strAscii hA _ z t) (fun A i s Q E st h => wpAny_pyIter_striter_ascii st h) (by decide)))
section
variable {X : Cx} {B : Bs} {hb : Hp -> Hp} {e a b c o tg : Expr} {es : List Expr} {pos p p2 apos cpos : Pos} {g ga gb go : EnvD -> Option D} {gs : EnvD -> Option (List D)} {x : Str}
def chD (z : Str) : List D := z.cps.toList.map fun c => D.str ⟨#[c]⟩
def gItS (g : EnvD -> Option D) : EnvD -> Option (List D) := fun ρ => (g ρ).bind fun d => match d with
  | .str z => some (chD z)
  | _ => none
theorem di_str (h : DR X B e g) : DI X B hb tg e (gItS g) :=
  pi_imp (pi_str h) fun σ H R ⟨F, ρ, ds, r, hg, k⟩ => by
    unfold gItS at hg
    cases q : g ρ with
    | none => rw [q] at hg; cases hg
    | some d =>
      rw [q] at hg
      cases d with
      | str z =>
        cases hg
        refine ⟨F, ρ, _, r, q, fun v F1 H1 e1 p1 => ⟨z, p1.str, k _ F1 H1 e1 fun F2 H2 s1 s2 s3 i => ⟨fun hi => ?_, fun hi => ?_⟩⟩⟩
        · have hl : i < z.cps.size := by simpa [chD] using hi
          refine ⟨hl, fun y H3 hy => ?_⟩
          obtain ⟨rfl, c, hc, rfl⟩ := hy
          refine ⟨F2, .str ⟨#[c]⟩, .refl s2, ?_, rfl⟩
          unfold chD
          rw [List.getElem?_map]
          have : z.cps.toList[i]? = some c := by simpa using hc
          rw [this]; rfl
        · show i = z.cps.size
          simpa [chD] using hi
      | _ => cases hg
def toV : D -> Option V
  | .non => some .non
  | .bl b => some (.bl b)
  | .int i => some (.int i)
  | .str x => some (.str x)
  | _ => none
def toVs : List D -> Option (List V)
  | [] => some []
  | d :: ds => (toV d).bind fun v => (toVs ds).map (v :: ·)
theorem toV_rp {K : KW} {F : Hp} {d : D} {v w : V} (h : toV d = some v) (r : Rp K F d w) : w = v /\ flatV v = true := by
  cases d <;> first | (cases h; exact ⟨r, rfl⟩) | cases h
theorem toVs_rps {K : KW} {F : Hp} : ∀ {ds : List D} {vs ws : List V}, toVs ds = some vs -> Rps K F ds ws -> ws = vs /\ vs.all flatV = true
  | [], _, _, h, r => by cases h; cases r; exact ⟨rfl, rfl⟩
  | d :: ds, vs, ws, h, ⟨w, r, e, h1, h2⟩ => by
    subst e
    cases q1 : toV d with
    | none => rw [show toVs (d :: ds) = (toV d).bind fun v => (toVs ds).map (v :: ·) from rfl, q1] at h; cases h
    | some v =>
      cases q2 : toVs ds with
      | none => rw [show toVs (d :: ds) = (toV d).bind fun v => (toVs ds).map (v :: ·) from rfl, q1, q2] at h; cases h
      | some us =>
        rw [show toVs (d :: ds) = (toV d).bind fun v => (toVs ds).map (v :: ·) from rfl, q1, q2] at h
        cases h
        obtain ⟨e1, f1⟩ := toV_rp q1 h1
        obtain ⟨e2, f2⟩ := toVs_rps q2 h2
        subst e1; subst e2
        exact ⟨rfl, by rw [List.all_cons, f1, f2]; rfl⟩
def fIn (neg : Bool) : D -> D -> Option D
  | .str i, .str j => some (.bl (if neg then !(!(Builtin.Str.occurrences j i 0 j.length 1).isEmpty) else !(Builtin.Str.occurrences j i 0 j.length 1).isEmpty))
  | x, .lst ds => (toV x).bind fun v => (toVs ds).map fun vs => .bl (if neg then !inV v vs else inV v vs)
  | x, .tup ds => (toV x).bind fun v => (toVs ds).map fun vs => .bl (if neg then !inV v vs else inV v vs)
  | _, _ => none
def rInA (K : KW) (neg : Bool) : R2 := fun x y H Q => rIn K neg x y H Q ∨ ∃ i j, x = .str i /\ y = .str j /\ Q (.bl (if neg then !(!(Builtin.Str.occurrences j i 0 j.length 1).isEmpty) else !(Builtin.Str.occurrences j i 0 j.length 1).isEmpty)) H
theorem op_inA : OpR X (compareOp .In) (rInA X.kw false) := op_in_seq.or op_in_str
theorem ok_in {K : KW} {neg : Bool} : OkR K (rInA K neg) (pE K) (fIn neg) := by
  intro F H x y dx dy d Q s rx ry e k
  have seq : ∀ {v : V} {ds : List D} {vs ws : List V} {a : Addr}, toV dx = some v -> toVs ds = some vs -> Rps K F ds ws -> y = .ref a -> (SqL K H a ws ∨ SqT K H a ws) -> d = .bl (if neg then !inV v vs else inV v vs) -> rInA K neg x y H Q := by
    intro v ds vs ws a h1 h2 h3 h4 h5 h6
    obtain ⟨e2, f2⟩ := toVs_rps h2 h3
    have hx : x = v /\ flatV v = true := by
      cases dx with
      | non => cases h1; exact ⟨rx.non, rfl⟩
      | bl b => cases h1; exact ⟨rx.bl, rfl⟩
      | int b => cases h1; exact ⟨rx.int, rfl⟩
      | str b => cases h1; exact ⟨rx.str, rfl⟩
      | _ => cases h1
    subst e2
    subst h6
    exact .inl ⟨a, ws, h4, h5, by rw [hx.1]; exact hx.2, f2, by rw [hx.1]; exact k _ F H (.refl s) rfl⟩
  have two : ∀ {ds : List D}, ((toV dx).bind fun v => (toVs ds).map fun vs => D.bl (if neg then !inV v vs else inV v vs)) = some d -> ∃ v vs, toV dx = some v /\ toVs ds = some vs /\ d = .bl (if neg then !inV v vs else inV v vs) := by
    intro ds h
    cases q1 : toV dx with
    | none => rw [q1] at h; cases h
    | some v =>
      cases q2 : toVs ds with
      | none => rw [q1, q2] at h; cases h
      | some vs => rw [q1, q2] at h; cases h; exact ⟨v, vs, rfl, rfl, rfl⟩
  cases dy with
  | lst ds =>
    obtain ⟨v, vs, q1, q2, q3⟩ := two (ds := ds) (by cases dx <;> exact e)
    obtain ⟨a, ws, h1, h2, h3⟩ := ry.lst s
    exact seq q1 q2 h3 h1 (.inl (.of h2)) q3
  | tup ds =>
    obtain ⟨v, vs, q1, q2, q3⟩ := two (ds := ds) (by cases dx <;> exact e)
    obtain ⟨a, ws, h1, h2, h3⟩ := ry.tup s
    exact seq q1 q2 h3 h1 (.inr (.of h2)) q3
  | str j =>
    cases dx with
    | str i => cases e; exact .inr ⟨_, _, rx.str, ry.str, k _ F H (.refl s) rfl⟩
    | _ => cases e
  | _ => cases dx <;> cases e
theorem rps_strs {K : KW} {F : Hp} : ∀ (ys : List Str), Rps K F (ys.map D.str) (ys.map V.str)
  | [] => rfl
  | y :: ys => ⟨_, _, rfl, rfl, rps_strs ys⟩
end
section
variable {ρ : EnvD} {g : EnvD -> Option D} {ds : List D} {a : Int} {u v : Bool} {p q : Str} {neg : Bool}
@[simp] theorem ev_gItS : gItS g ρ = (g ρ).bind fun d => match d with | .str z => some (chD z) | _ => none := rfl
@[simp] theorem ev_fInS : fIn neg (.str p) (.str q) = some (.bl (if neg then !(!(Builtin.Str.occurrences q p 0 q.length 1).isEmpty) else !(Builtin.Str.occurrences q p 0 q.length 1).isEmpty)) := rfl
end
section
variable {K : KW} {F : Hp}
end
section
variable {X : Cx} {B : Bs} {e a b c o i : Expr} {es : List Expr} {pos p apos cpos pos' : Pos} {g ga gi gv' : EnvD -> Option D} {gk gk2 : EnvD -> Option (List (Key × D))} {gs gxs : EnvD -> Option (List D)} {x : Str}
end
section
variable {X : Cx} {B : Bs} {e a b c o i : Expr} {es : List Expr} {pos p apos cpos pos' : Pos} {g ga gi gv' : EnvD -> Option D} {gk gk2 : EnvD -> Option (List (Key × D))} {gs : EnvD -> Option (List D)} {gxs : EnvD -> Option (List En)} {x : Str}
variable {k n : Nat} {m : List En -> Option En}
end
section
variable {K : KW} {F : Hp}
end
section
variable {X : Cx} {B : Bs} {e a b c o i tg : Expr} {es : List Expr} {pos p apos cpos pos' : Pos} {g ga gi gv' : EnvD -> Option D} {gk gk2 : EnvD -> Option (List (Key × D))} {gs : EnvD -> Option (List D)} {x : Str}
end
section
variable {X : Cx} {B : Bs} {e a b c o i tg : Expr} {es : List Expr} {pos p apos cpos pos' : Pos} {g ga gi gv' : EnvD -> Option D} {gk gk2 : EnvD -> Option (List (Key × D))} {gs : EnvD -> Option (List D)} {x : Str}
end
def without (H : Hp) (a : Addr) : Hp := fun b => if b = a then none else H b
def lSp (K : KW) (n : Nat) (m : Addr -> List (Key × D) -> List En -> Option (List (Key × D))) : Sp := fun vs H Q _ =>
  ∃ F kvs xs kvs' a ob ws us, vs = .ref a :: us /\ Same F H /\ F a = none /\ H a = some (DX K.w a ob ws) /\ Rkv K F kvs ws /\ xs.length + 1 = n /\ Paired (fun x v => ArgE K F (without H a) x v) xs us /\ m a kvs xs = some kvs' /\
    ∀ F' H' ob' ws', Ext F (without H a) F' H' -> H' a = some (DX K.w a ob' ws') -> F' a = none -> Rkv K F' kvs' ws' -> Q .non H'
section
variable {P : Program} {w : World} {K : PySem.W.Frag} {mg : Str -> Option Value} {base : Heap}
structure Lx (P : Program) (w : World) (K : PySem.W.Frag) (mg : Str -> Option Value) (base : Heap) (x : Str) (k n : Nat) (m : List (Key × D) -> List En -> Option (List (Key × D))) : Prop where
  ex : ∃ f fd ps m', FnOk P w K mg base CX0 k f fd ps (lSp ⟨K, w⟩ n m') /\ mg x = some (.ref f) /\ PySem.W.keepIn K (.ref f) = true /\ Binds K fd ps [] /\ ∀ a kvs xs, xs.length + 1 = n -> m' a kvs xs = m kvs xs
end
section
variable {X : Cx} {B : Bs} {es : List Expr} {pos p p1 cpos : Pos} {gxs : EnvD -> Option (List En)} {x y : Str} {k n : Nat} {m : List (Key × D) -> List En -> Option (List (Key × D))}
end
section
variable {X : Cx} {B : Bs} {a b : Expr} {pos : Pos} {ga gb : EnvD -> Option D}
end
section
variable {ρ : EnvD} {i j n : Nat} {d : D} {ds : List D} {kvs : List (Key × D)} {oa : Option Addr} {gi g : EnvD -> Option D} {gk gk2 : EnvD -> Option (List (Key × D))} {gs : EnvD -> Option (List D)}
end
end Dv
namespace L4
open PySem PySem.Spec L2 L3
open PyProof.Rows hiding St
end L4
namespace Dv
open PySem PySem.Spec L2 L3 L4
open PyProof.Rows hiding St
section
variable {X : Cx} {B : Bs} {e a b c o i tg st : Expr} {es elts : List Expr} {pos p p2 apos cpos pos' tpos : Pos} {tk : Nat} {g ga gi gv' : EnvD -> Option D} {gk gk2 : EnvD -> Option (List (Key × D))} {gs : EnvD -> Option (List D)} {gxs : EnvD -> Option (List En)} {x : Str}
end
structure FunD (K : PySem.W.Frag) (x qual : Str) (st : Stmt) (f : Addr) (fd : FuncData) : Prop where
  ex : ∃ (oc dV : Value) (od : Option Addr) (kV doc pm : Value) (an : Option Addr) (cdv ct : Value) (osl : Array (Option Value)),
    fd = PySem.W.fnOf x qual (defArgs st) (defBody st) (defScope st) dV kV doc pm an cdv ct /\ K.lookup f = some ⟨oc, od, .func fd, osl⟩ /\ PySem.W.codeIn K cdv qual = true
  kp : PySem.W.keepIn K (.ref f) = true
section
variable {P : Program} {w : World} {K : PySem.W.Frag} {mg : Str -> Option Value} {base : Heap}
structure FxN (P : Program) (w : World) (K : PySem.W.Frag) (mg : Str -> Option Value) (base : Heap) (x : Str) (k n : Nat) (m : List En -> Option En) : Prop where
  ex : ∃ f fd ps, FnOk P w K mg base CX0 k f fd ps (pSp ⟨K, w⟩ n (len? n m)) /\ mg x = some (.ref f) /\ PySem.W.keepIn K (.ref f) = true /\ Binds K fd ps [.none]
end
section
variable {X : Cx} {B : Bs} {e : Expr} {es : List Expr} {pos p : Pos} {gxs : EnvD -> Option (List En)} {x : Str} {k n : Nat} {m : List En -> Option En}
end
section
variable {ρ : EnvD} {g gi : EnvD -> Option D} {m : List En -> Option En} {xs : List En}
end
section
variable {X : Cx} {B : Bs} {e c tg iter : Expr} {pos p1 p2 : Pos} {ge : EnvD -> Option D} {t : EnvD -> Option Bool} {gi : EnvD -> Option (List D)} {gbd : SD}
end
end Dv
namespace L4
open PySem PySem.Spec L2 L3
open PyProof.Rows hiding St
section
variable {prog : Program} {w : World} {A : Around} {E : Value -> Shared -> Prop} {s : Shared}
end
section
variable {X : Cx} {o a b : Expr} {pos p2 : Pos} {to ta tb : TE}
end
end L4
namespace Dv
open PySem PySem.Spec L2 L3 L4
open PyProof.Rows hiding St
section
variable {X : Cx} {B : Bs} {e ae be : Expr} {p p2 tpos pos : Pos} {ga gb : EnvD -> Option D} {gl : EnvD -> Option (List D)} {x : Str}
end
section
variable {X : Cx} {B : Bs} {hb : Hp -> Hp} {e a b c o tg : Expr} {es : List Expr} {pos p p2 apos cpos : Pos} {g ga gb go : EnvD -> Option D} {gs : EnvD -> Option (List D)} {x : Str}
end
section
variable {X : Cx} {B : Bs} {hb : Hp -> Hp} {e a b c o tg : Expr} {es : List Expr} {pos p p2 apos cpos : Pos} {g ga gb go : EnvD -> Option D} {gs : EnvD -> Option (List D)} {x : Str}
end
end Dv
namespace L4
open PySem PySem.Spec L2 L3
open PyProof.Rows hiding St
section
variable {prog : Program} {w : World} {A : Around} {E : Value -> Shared -> Prop} {s : Shared} {T : String} {r d : Addr} {n : Nat} {P : Nat -> Value -> Prop} {OK : Heap -> Prop}
end
end L4
namespace Dv
open PySem PySem.Spec L2 L3 L4
open PyProof.Rows hiding St
section
variable {X : Cx} {B : Bs} {o : Expr} {pos p : Pos} {gk : EnvD -> Option (List (Key × D))} {x : Str}
end
section
variable {K : KW} {B : Bs} {F H : Hp} {σ : St} {ρ : EnvD}
theorem get_forget {j i : Nat} {x : En} (h : (ρ.set j none)[i]? = some (some x)) : i ≠ j /\ ρ[i]? = some (some x) := by
  rcases set_slot h with ⟨rfl, q, _⟩ | ⟨hj, f⟩
  · cases q
  · exact ⟨hj, f⟩
theorem Rep.forget (r : Rep K B F σ H ρ) (j : Nat) : Rep K B F σ H (ρ.set j none) where
  ex := r.ex
  len := by simp [r.len]
  ents := fun i x h => r.ents i x (get_forget h).2
  dj := fun i k x y v w h1 h2 s1 s2 hne => r.dj i k x y v w (get_forget h1).2 (get_forget h2).2 s1 s2 hne
theorem Rep.loose (r : Rep K B F σ H ρ) {j : Nat} (hj : ∀ x, ρ[j]? ≠ some (some x)) (v : V) : Rep K B F (σ.set j (some v)) H ρ where
  ex := r.ex
  len := by simp [r.len]
  ents := fun i x h => by
    have hne : j ≠ i := fun z => hj x (z ▸ h)
    obtain ⟨w, h1, h2⟩ := r.ents i x h
    exact ⟨w, by rw [List.getElem?_set_ne hne]; exact h1, h2⟩
  dj := fun i k x y u w h1 h2 s1 s2 hne => by
    have n1 : j ≠ i := fun z => hj x (z ▸ h1)
    have n2 : j ≠ k := fun z => hj y (z ▸ h2)
    rw [List.getElem?_set_ne n1] at s1
    rw [List.getElem?_set_ne n2] at s2
    exact r.dj i k x y u w h1 h2 s1 s2 hne
end
def mutN (k : Nat) (f : List D -> List D -> Option (List D)) (es : List D) : OT -> Nat -> Nat -> Option OT
  | t, _, 0 => some t
  | t, n, m + 1 => ((t.get [n, k]).bind OT.leaf).bind fun ds => (f ds es).bind fun ds' => mutN k f es (t.put [n, k] (.lst (lfs ds'))) (n + 1) m
theorem mutN_step {k : Nat} {f : List D -> List D -> Option (List D)} {es : List D} {t t' : OT} {n m : Nat} (h : mutN k f es t n (m + 1) = some t') : ∃ ds ds', t.get [n, k] = some (.lst (lfs ds)) /\ f ds es = some ds' /\ mutN k f es (t.put [n, k] (.lst (lfs ds'))) (n + 1) m = some t' := by
  simp only [mutN] at h
  cases q1 : t.get [n, k] with
  | none => rw [q1] at h; cases h
  | some u =>
    rw [q1] at h
    replace h : ((OT.leaf u).bind fun ds => (f ds es).bind fun ds' => mutN k f es (t.put [n, k] (.lst (lfs ds'))) (n + 1) m) = some t' := h
    cases q2 : OT.leaf u with
    | none => rw [q2] at h; cases h
    | some ds =>
      rw [q2] at h
      replace h : ((f ds es).bind fun ds' => mutN k f es (t.put [n, k] (.lst (lfs ds'))) (n + 1) m) = some t' := h
      cases q3 : f ds es with
      | none => rw [q3] at h; cases h
      | some ds' =>
        rw [q3] at h
        exact ⟨ds, ds', by rw [leaf_eq q2], q3, h⟩
theorem put_lst {ts : List OT} {n k : Nat} {u : OT} : (OT.lst ts).put [n, k] u = .lst (puts ts n [k] u) := by simp [OT.put]
theorem puts_len {u : OT} {p : List Nat} : ∀ {ts : List OT} {n : Nat}, (puts ts n p u).length = ts.length
  | [], _ => by simp [puts]
  | t :: ts, 0 => by simp [puts]
  | t :: ts, n + 1 => by simp [puts, puts_len (ts := ts)]
theorem gets_one : ∀ {ts : List OT} {n k : Nat} {w : OT}, gets ts n [k] = some w -> ∃ u, gets ts n [] = some u /\ u.get [k] = some w
  | [], _, _, _, h => by simp [gets] at h
  | t :: ts, 0, k, w, h => ⟨t, by cases t <;> simp [gets, OT.get], by simpa [gets] using h⟩
  | t :: ts, n + 1, k, w, h => by
    simp only [gets] at h
    obtain ⟨u, h1, h2⟩ := gets_one (ts := ts) h
    exact ⟨u, by simpa [gets] using h1, h2⟩
section
variable {X : Cx} {B : Bs} {tg e ck : Expr} {es : List Expr} {x y nm : Str} {pos p2 p3 p4 p5 apos cpos : Pos} {id : String} {r : V -> List V -> Hp -> VK -> Prop} {f : List D -> List D -> Option (List D)} {gs : EnvD -> Option (List D)} {dd : List D}
theorem row_at {K : KW} {F H : Hp} {ts : List OT} {us : List V} {n k : Nat} {ds : List D} {z : V} (ro : RepOs K F H ts us) (hn : (feetOs H ts us).Nodup) (hg : gets ts n [k] = some (.lst (lfs ds))) (hz : us[n]? = some z) :
    ∃ b vs c ws, z = .ref c /\ (H c = some (.lst ws) ∨ H c = some (.tup ws)) /\ ws[k]? = some (.ref b) /\ At K F H (feetOs H ts us) ds b vs /\ ∀ ds' vs', Rps K F ds' vs' -> RepOs K F (upd H b (.lst vs')) (puts ts n [k] (.lst (lfs ds'))) us /\ feetOs (upd H b (.lst vs')) (puts ts n [k] (.lst (lfs ds'))) us = feetOs H ts us := by
  obtain ⟨b, vs, g1, g2, g3⟩ := RepOs.path ro hn hg
  obtain ⟨u, h1, h2⟩ := gets_one hg
  obtain ⟨w, k1, k2⟩ := RepOs.getp ro h1
  simp only [valsAt, hz] at k1 g1
  have k1 : valAt H z [] = some w := k1
  cases k1
  have g1 : valAt H z [k] = some (.ref b) := g1
  cases u with
  | frz d => simp [OT.get] at h2
  | lst cs =>
    obtain ⟨c, ws, rfl, q, _⟩ := k2
    refine ⟨b, vs, c, ws, rfl, .inl q, ?_, g2, g3⟩
    simp only [valAt, itemsH_lst q] at g1
    cases q2 : ws[k]? with
    | none => rw [q2] at g1; cases g1
    | some v => rw [q2] at g1; cases g1; rfl
  | tup cs =>
    obtain ⟨c, ws, rfl, q, _⟩ := k2
    refine ⟨b, vs, c, ws, rfl, .inr q, ?_, g2, g3⟩
    simp only [valAt, itemsH_tup q] at g1
    cases q2 : ws[k]? with
    | none => rw [q2] at g1; cases g1
    | some v => rw [q2] at g1; cases g1; rfl
end
end Dv
namespace L4
open PySem PySem.Spec L2 L3
open PyProof.Rows hiding St
section
variable {prog : Program} {w : World} {A : Around} {E : Value -> Shared -> Prop} {s : Shared}
end
section
variable {X : Cx} {a : Expr} {ta : TA} {p p2 pos pos2 : Pos}
end
end L4
namespace Dv
open PySem PySem.Spec L2 L3 L4
open PyProof.Rows hiding St
section
variable {X : Cx} {B : Bs} {a : Expr} {p p2 pos pos2 : Pos} {gs : EnvD -> Option (List D)}
end
section
variable {X : Cx} {B : Bs} {e : Expr} {es : List Expr} {pos p : Pos} {g : EnvD -> Option En} {gxs : EnvD -> Option (List En)} {x : Str}
def scal : D -> Bool
  | .int _ => true
  | .bl _ => true
  | .non => true
  | .str _ => true
  | _ => false
variable {k n : Nat} {m : List En -> Option En}
end
section
variable {K : KW} {B : Bs} {F H : Hp} {σ : St} {ρ : EnvD}
end
section
variable {X : Cx} {B : Bs} {e ck ck0 ck1 : Expr} {x y z : Str} {pos pos1 pos2 p p1 p2 p3 p4 p5 p6 p7 pos' apos cpos : Pos} {g : EnvD -> Option D}
end
section
variable {X : Cx} {B : Bs} {e : Expr} {es : List Expr} {pos p : Pos} {gxs : EnvD -> Option (List En)} {x : Str} {k n : Nat} {m : List En -> Option En}
end
section
variable {X : Cx} {B : Bs} {e : Expr} {pos : Pos} {g : EnvD -> Option D}
end
def mAppend : List D -> List D -> Option (List D)
  | ds, [d] => if ds.length <= TOP then some (ds ++ [d]) else none
  | _, _ => none
theorem ok_append {K : KW} : MutOk K rAppend mAppend := by
  intro F H a vs ds us es ds' Q hH hr hp hf k
  match es, hp, hf with
  | [d], hp, hf =>
    obtain ⟨v, rfl, rv⟩ := pair1 hp
    have hf : (if ds.length <= TOP then some (ds ++ [d]) else none) = some ds' := hf
    split at hf
    · rename_i hl
      cases hf
      exact ⟨a, vs, v, rfl, rfl, hH, by rw [<- hr.length]; exact Nat.lt_of_le_of_lt hl (by rw [sizeLine_eq]; decide), k _ _ (hr.snoc rv)⟩
    · cases hf
  | [], _, hf => cases hf
  | _ :: _ :: _, _, hf => cases hf
@[simp] theorem ev_mAppend {ds : List D} {d : D} : mAppend ds [d] = if ds.length <= TOP then some (ds ++ [d]) else none := rfl
theorem feetOs_snoc {H : Hp} {t : OT} {v : V} : ∀ {ts : List OT} {vs : List V}, ts.length = vs.length -> feetOs H (ts ++ [t]) (vs ++ [v]) = feetOs H ts vs ++ feetO H t v
  | [], [], _ => by simp [feetOs]
  | _ :: _, _ :: _, h => by
    simp only [List.cons_append, feetOs]
    rw [feetOs_snoc (by simpa using h), List.append_assoc]
theorem RepOs.snoc {K : KW} {F H : Hp} {t : OT} {v : V} (h : RepO K F H t v) : ∀ {ts : List OT} {vs : List V}, RepOs K F H ts vs -> RepOs K F H (ts ++ [t]) (vs ++ [v])
  | [], vs, r => by have r : vs = [] := r; subst r; exact ⟨v, [], rfl, h, rfl⟩
  | _ :: _, _, ⟨w, r, e, h1, h2⟩ => by subst e; exact ⟨w, r ++ [v], rfl, h1, RepOs.snoc h h2⟩
section
variable {X : Cx} {B : Bs} {tg iter elt : Expr} {ifs : List Expr} {pos : Pos} {gi : EnvD -> Option OT}
end
section
variable {X : Cx} {B : Bs} {a e o : Expr} {es : List Expr} {pos p apos cpos : Pos} {g go : EnvD -> Option D} {gs : EnvD -> Option (List D)}
def FEW : Nat := 1000000000000
def numT (i : Int) : Str := Str.ofString (toString i)
theorem few_log {i : Int} (h : i.natAbs < FEW) : i.natAbs.log2 < 1920 := by
  by_cases z : i.natAbs = 0
  · rw [z]; decide
  · exact (Nat.log2_lt z).mpr (Nat.lt_trans h (Nat.lt_of_lt_of_le (by decide : FEW < 2 ^ 40) (Nat.pow_le_pow_right (by decide) (by decide))))
def fStr : List D -> Option D
  | [.int i] => if i.natAbs < FEW then some (.str (numT i)) else none
  | _ => none
theorem call_str1 : CallR X (.type "str") (fun xs H Q => ∃ i, xs = [.int i] /\ i.natAbs < FEW /\ Q (.str (numT i)) H) := by
  intro pins s σ H xs us Q I r h
  obtain ⟨i, rfl, hi, q⟩ := h
  obtain ⟨u, rfl, t, rfl⟩ := vals1 r
  exact PySem.P.str_of_int (few_log hi) ⟨.str (numT i), H, I.tok _, ⟨_, rfl⟩, q⟩
theorem ok_str {K : KW} : CallOk K (fun xs H Q => ∃ i, xs = [.int i] /\ i.natAbs < FEW /\ Q (.str (numT i)) H) (pE K) fStr := by
  intro F H vs ds d Q s hp e k
  unfold fStr at e
  split at e
  · split at e
    · rename_i hi
      cases e
      obtain ⟨v, rfl, r⟩ := pair1 hp
      cases r.int
      exact ⟨_, rfl, hi, k _ F H (.refl s) rfl⟩
    · cases e
  · cases e
theorem de_strc (hg : Gl X "str") (hm : X.mg "str" = none) (ha : DRs X B [a] gs) (he : starEach [a] X.env = (false, eval a X.env) :: starEach [] X.env := by rfl) (hpl : (backTo pos (starEach [] X.env)).any (·.1) = false := by rfl) :
    DE X B (.Call (.Name "str" p) [a] [] pos) (gB fStr gs) := de_callTy call_str1 ok_str hg hm (by decide +kernel) ha (by decide) (by decide) he hpl
def fIntT : List D -> Option D
  | [.str x] => if x.length <= 640 then (intText? x).map D.int else none
  | _ => none
theorem call_intT : CallR X (.type "int") (fun xs H Q => ∃ x n, xs = [.str x] /\ intText? x = some n /\ x.length <= 640 /\ Q (.int n) H) := by
  intro pins s σ H xs us Q I r h
  obtain ⟨x, n, rfl, hx, hl, q⟩ := h
  obtain ⟨u, rfl, t, rfl⟩ := vals1 r
  exact PySem.W.KIN.call_text hx hl ⟨.int n, H, I.tok _, ⟨_, rfl⟩, q⟩
theorem ok_intT {K : KW} : CallOk K (fun xs H Q => ∃ x n, xs = [.str x] /\ intText? x = some n /\ x.length <= 640 /\ Q (.int n) H) (pE K) fIntT := by
  intro F H vs ds d Q s hp e k
  unfold fIntT at e
  split at e
  · rename_i x
    split at e
    · rename_i hl
      cases q : intText? x with
      | none => rw [q] at e; cases e
      | some n =>
        rw [q] at e
        cases e
        obtain ⟨v, rfl, r⟩ := pair1 hp
        cases r.str
        exact ⟨x, n, rfl, q, hl, k _ F H (.refl s) rfl⟩
    · cases e
  · cases e
theorem de_intT (hg : Gl X "int") (hm : X.mg "int" = none) (ha : DRs X B [a] gs) (he : starEach [a] X.env = (false, eval a X.env) :: starEach [] X.env := by rfl) (hpl : (backTo pos (starEach [] X.env)).any (·.1) = false := by rfl) :
    DE X B (.Call (.Name "int" p) [a] [] pos) (gB fIntT gs) := de_callTy call_intT ok_intT hg hm (by decide +kernel) ha (by decide) (by decide) he hpl
def part3 (z y : Str) : List Str := [(Txt.partition z y).1, (Txt.partition z y).2.1, (Txt.partition z y).2.2]
theorem mt_part : MtR X "str.partition" (fun x vs H Q => ∃ z y : Str, x = .str z /\ vs = [.str y] /\ (y.length == 0) = false /\ z.length <= sizeLine /\ ∀ D, H D = none -> Q (.ref D) (upd H D (.tup ((part3 z y).map V.str)))) := by
  intro pins s σ H x vs v us Q I rx rv h
  obtain ⟨z, y, rfl, rfl, hy, hz, q⟩ := h
  obtain ⟨t, rfl⟩ := rx
  obtain ⟨u, rfl, ru⟩ := rv.one
  obtain ⟨t', rfl⟩ := ru
  have hf : H s.heap.objs.size = none := I.hok.fresh (Nat.le_refl _)
  refine call_meets PySem.F.slot_str_partition (typeIs_str _ _ _) PySem.F.entry_str_partition (PySem.F.args_str_partition_2 _ _) (meets_str_partition z y t t' hy hz) ?_
  have q' := q _ hf
  unfold part3 Txt.partition at q'
  revert q'
  cases Builtin.Str.occurrences z y 0 z.length 1 with
  | nil =>
    intro q'
    refine ⟨.ref s.heap.objs.size, _, I.laid (fun b u e => Heap.get?_push_of_some _ e) (Nat.le_refl _) ?_, rfl, q'⟩
    exact ⟨by rw [sizeLine_eq]; simp, _, .cons ⟨_, rfl⟩ (.cons ⟨_, rfl⟩ (.cons ⟨_, rfl⟩ .nil)), ⟨_, Heap.get?_push_size _ rfl, rfl, _, rfl⟩⟩
  | cons i r =>
    intro q'
    refine ⟨.ref s.heap.objs.size, _, I.laid (fun b u e => Heap.get?_push_of_some _ e) (Nat.le_refl _) ?_, rfl, q'⟩
    exact ⟨by rw [sizeLine_eq]; simp, _, .cons ⟨_, rfl⟩ (.cons ⟨_, rfl⟩ (.cons ⟨_, rfl⟩ .nil)), ⟨_, Heap.get?_push_size _ rfl, rfl, _, rfl⟩⟩
def fPart : D -> List D -> Option D
  | .str z, [.str y] => if (y.length == 0) = false /\ z.length <= TOP then some (.tup ((part3 z y).map D.str)) else none
  | _, _ => none
theorem de_part (ho : DR X B o go) (ha : DRs X B [e] gs)
    (hbase : attributeBase o "partition" X.env (eval o X.env) = eval o X.env := by rfl)
    (hfew : ((backTo cpos (starEach [e] X.env)).all (fun x => !x.1) && (backToKw cpos (keywordEach [] X.env)).all (fun x => x.1.isSome)
      && decide (([e] : List Expr).length + ([] : List Keyword).length + (if ([] : List Keyword).isEmpty then 0 else 1) < 30)) = true := by rfl)
    (hline : (apos.endLine == cpos.line) = true := by rfl) (hs : starEach [e] X.env = (false, eval e X.env) :: starEach [] X.env := by rfl) (hplain : (backTo cpos (starEach [] X.env)).any (·.1) = false := by rfl) :
    DE X B (.Call (.Attribute o "partition" apos) [e] [] cpos) (gSM fPart go gs) :=
  pe_imp (pe_bm PySem.F.plainAttrs_str PySem.F.slot_str_partition PySem.F.type_str_partition mt_part ho ha hbase hfew hline hs hplain) fun σ H Q ⟨F, ρ, d, r, hg, k⟩ => by
    obtain ⟨d1, ds, q1, q2, q3⟩ := bind2 hg
    unfold fPart at q3
    split at q3
    · rename_i z y
      split at q3
      · rename_i hc
        cases q3
        refine ⟨F, ρ, _, r, q1, fun v F1 H1 e1 p1 => ?_⟩
        cases p1.str
        refine ⟨rfl, F1, ρ, _, r.ext e1, q2, fun vs F2 H2 e2 p2 => ?_⟩
        obtain ⟨w, rfl, rw'⟩ := pair1 p2
        cases rw'.str
        refine ⟨z, y, rfl, rfl, hc.1, top_line hc.2, fun D hD => ?_⟩
        have e3 := e1.trans e2
        exact k _ (upd F2 D (.tup ((part3 z y).map V.str))) _ (e3.trans (.newF e3.fh hD)) ⟨D, _, rfl, upd_same, rps_strs _⟩
      · cases q3
    · cases q3
theorem vals_splits : ∀ l : List (Str × Tok), Vals ((l.map (·.1)).map V.str) (strValues l)
  | [] => .nil
  | x :: l => .cons ⟨_, rfl⟩ (vals_splits l)
theorem split_call {z y : Str} {t u : Tok} {s : Shared} {prog : Program} {w : World} {A : Around} {E : Value -> Shared -> Prop} {Q : Value -> Shared -> Prop} (hy : (y.length == 0) = false) (hz : z.length + 2 <= sizeLine)
    (h : ∀ l k, l.map (·.1) = Txt.split z y -> Q (.ref s.heap.objs.size) { s with heap := s.heap.push { cls := .type "list", data := .seq (strValues l).toArray }, toks := k }) : wpAny (model prog w) A (call (.builtin "str.split") [.str z t, .str y u]) Q E s := by
  have hn : (Builtin.Str.partsBetween z (Builtin.Str.occurrences z y 0 z.length (z.length + 1)) y.length).length <= sizeLine := by
    have := StrLaws.occ_length_le z y 0 z.length (z.length + 1)
    rw [length_partsBetween]; omega
  cases c1 : (decide (z.length < y.length) || decide (Builtin.Str.strKind z < Builtin.Str.strKind y)) with
  | true => exact call_meets PySem.F.slot_str_split (typeIs_str _ _ _) PySem.F.entry_str_split (PySem.F.args_str_split_2 _ _) (meets_str_split_cannot_occur z y t u c1) (h [(z, t)] s.toks (if_pos c1).symm)
  | false =>
    cases c2 : (Builtin.Str.occurrences z y 0 z.length (z.length + 1)).isEmpty with
    | true => exact call_meets PySem.F.slot_str_split (typeIs_str _ _ _) PySem.F.entry_str_split (PySem.F.args_str_split_2 _ _) (meets_str_split_not_found z y t u c1 hy c2) (h [(z, t)] s.toks ((if_neg (ne_true_of_eq_false c1)).trans (if_pos c2)).symm)
    | false =>
      refine call_meets PySem.F.slot_str_split (typeIs_str _ _ _) PySem.F.entry_str_split (PySem.F.args_str_split_2 _ _) (meets_str_split_sep z y t u c1 hy c2 (by omega) hn) ?_
      have := h (numbered s.toks (Builtin.Str.partsBetween z (Builtin.Str.occurrences z y 0 z.length (z.length + 1)) y.length)) (s.toks + (Builtin.Str.partsBetween z (Builtin.Str.occurrences z y 0 z.length (z.length + 1)) y.length).length) ((numbered_texts _ _).trans ((if_neg (ne_true_of_eq_false c1)).trans (if_neg (ne_true_of_eq_false c2))).symm)
      rw [<- strsFrom_eq] at this
      exact this
theorem split_few (z y : Str) : (Txt.split z y).length <= z.length + 2 := by
  have h0 := StrLaws.occ_length_le z y 0 z.length (z.length + 1)
  unfold Txt.split
  split
  · simp
  · split
    · simp
    · rw [length_partsBetween]; omega
theorem mt_split : MtR X "str.split" (fun x vs H Q => ∃ z y : Str, x = .str z /\ vs = [.str y] /\ (y.length == 0) = false /\ z.length + 2 <= sizeLine /\ ∀ D, H D = none -> Q (.ref D) (upd H D (.lst ((Txt.split z y).map V.str)))) := by
  intro pins s σ H x vs v us Q I rx rv h
  obtain ⟨z, y, rfl, rfl, hy, hz, q⟩ := h
  obtain ⟨t, rfl⟩ := rx
  obtain ⟨u, rfl, ru⟩ := rv.one
  obtain ⟨t', rfl⟩ := ru
  have hf : H s.heap.objs.size = none := I.hok.fresh (Nat.le_refl _)
  refine split_call hy hz fun l k el => ?_
  refine ⟨.ref s.heap.objs.size, upd H s.heap.objs.size (.lst ((Txt.split z y).map V.str)), I.laid (fun b u e => Heap.get?_push_of_some _ e) (Nat.le_refl _) ?_, rfl, q _ hf⟩
  have := split_few z y
  exact ⟨by rw [List.length_map]; omega, _, 0, by rw [<- el]; exact vals_splits l, Heap.get?_push_size _ rfl⟩
def fSplit : D -> List D -> Option (List D)
  | .str z, [.str y] => if (y.length == 0) = false /\ z.length + 2 <= TOP then some ((Txt.split z y).map D.str) else none
  | _, _ => none
def gSML (f : D -> List D -> Option (List D)) (go : EnvD -> Option D) (gs : EnvD -> Option (List D)) : EnvD -> Option (List D) := fun ρ => (go ρ).bind fun d => (gs ρ).bind fun ds => f d ds
theorem bind2L {f : D -> List D -> Option (List D)} {ρ : EnvD} {x : List D} (h : gSML f go gs ρ = some x) : ∃ d ds, go ρ = some d /\ gs ρ = some ds /\ f d ds = some x := by
  unfold gSML at h
  cases q : go ρ with
  | none => rw [q] at h; cases h
  | some d =>
    rw [q] at h
    cases q2 : gs ρ with
    | none => rw [q2] at h; cases h
    | some ds => rw [q2] at h; exact ⟨d, ds, rfl, rfl, h⟩
theorem da_split (ho : DR X B o go) (ha : DRs X B [e] gs)
    (hbase : attributeBase o "split" X.env (eval o X.env) = eval o X.env := by rfl)
    (hfew : ((backTo cpos (starEach [e] X.env)).all (fun x => !x.1) && (backToKw cpos (keywordEach [] X.env)).all (fun x => x.1.isSome)
      && decide (([e] : List Expr).length + ([] : List Keyword).length + (if ([] : List Keyword).isEmpty then 0 else 1) < 30)) = true := by rfl)
    (hline : (apos.endLine == cpos.line) = true := by rfl) (hs : starEach [e] X.env = (false, eval e X.env) :: starEach [] X.env := by rfl) (hplain : (backTo cpos (starEach [] X.env)).any (·.1) = false := by rfl) :
    DA X B (.Call (.Attribute o "split" apos) [e] [] cpos) (gSML fSplit go gs) :=
  pe_imp (pe_bm PySem.F.plainAttrs_str PySem.F.slot_str_split PySem.F.type_str_split mt_split ho ha hbase hfew hline hs hplain) fun σ H Q ⟨F, ρ, d, r, hg, k⟩ => by
    obtain ⟨d1, ds, q1, q2, q3⟩ := bind2L hg
    unfold fSplit at q3
    split at q3
    · rename_i z y
      split at q3
      · rename_i hc
        cases q3
        refine ⟨F, ρ, _, r, q1, fun v F1 H1 e1 p1 => ?_⟩
        cases p1.str
        refine ⟨rfl, F1, ρ, _, r.ext e1, q2, fun vs F2 H2 e2 p2 => ?_⟩
        obtain ⟨w, rfl, rw'⟩ := pair1 p2
        cases rw'.str
        refine ⟨z, y, rfl, rfl, hc.1, top_line hc.2, fun D hD => ?_⟩
        have e3 := e1.trans e2
        have hH : H D = none := by
          cases q5 : H D with
          | none => rfl
          | some o' => have := e3.hh _ _ q5; rw [this] at hD; cases hD
        exact k _ F2 _ (e3.trans (.new e3.fh hD)) ⟨D, _, rfl, hH, upd_same, e3.fh.free hD, rps_strs _⟩
      · cases q3
    · cases q3
def txtD : D -> Option Str
  | .str y => some y
  | .int i => if i.natAbs < FEW then some (numT i) else none
  | _ => none
def lJ (K : KW) (B : Bs) (gj : EnvD -> Option Str) (acc : Str) : TE := fun σ H Q =>
  ∃ F ρ y, Rep K B F σ H ρ /\ gj ρ = some y /\ (acc ++ y).length <= TOP /\ ∀ F' H', Ext F H F' H' -> Q (.str (acc ++ y)) H'
def DJ (X : Cx) (B : Bs) (es : List Expr) (gj : EnvD -> Option Str) : Prop :=
  ∀ (acc : Str) (pins : List (Addr × Obj)) (s : Shared) (σ : St) (H : Hp) (Q : VK), Inv X pins σ H s -> lJ X.kw B gj acc σ H Q -> wpAny (model X.prog X.w) X.A (joinParts acc (evalEach es X.env)) (EP X pins σ Q) X.xe s
def jNil : EnvD -> Option Str := fun _ => some Str.empty
def jStr (z : Str) (gj : EnvD -> Option Str) : EnvD -> Option Str := fun ρ => (gj ρ).map fun y => z ++ y
def jVal (g : EnvD -> Option D) (gj : EnvD -> Option Str) : EnvD -> Option Str := fun ρ => ((g ρ).bind txtD).bind fun z => (gj ρ).map fun y => z ++ y
theorem app_nil (z : Str) : z ++ Str.empty = z := by
  obtain ⟨c⟩ := z
  show (⟨c ++ #[]⟩ : Str) = ⟨c⟩
  rw [Array.append_empty]
theorem app_assoc (x y z : Str) : x ++ y ++ z = x ++ (y ++ z) := by
  obtain ⟨a⟩ := x; obtain ⟨b⟩ := y; obtain ⟨c⟩ := z
  show (⟨a ++ b ++ c⟩ : Str) = ⟨a ++ (b ++ c)⟩
  rw [Array.append_assoc]
theorem app_le (x y : Str) : x.length <= (x ++ y).length := by rw [Str.length_append]; omega
theorem dj_nil : DJ X B [] jNil := by
  intro acc pins s σ H Q I ⟨F, ρ, y, r, hg, hz, k⟩
  cases hg
  rw [app_nil] at k hz
  exact joinParts_nil ⟨.str acc, H, I.tok _, ⟨_, rfl⟩, k F H (.refl r.ex.fh)⟩ (top_line hz)
theorem dj_str {z : Str} {j} {gj : EnvD -> Option Str} (h : DJ X B es gj) : DJ X B (.Constant (.str z) j pos :: es) (jStr z gj) := by
  intro acc pins s σ H Q I ⟨F, ρ, y, r, hg, hz, k⟩
  unfold jStr at hg
  cases q : gj ρ with
  | none => rw [q] at hg; cases hg
  | some y' =>
    rw [q] at hg
    cases hg
    rw [<- app_assoc] at hz k
    refine joinParts_cons (Calls.Constant_str ⟨top_line (Nat.le_trans (app_le _ y') hz), ?_⟩)
    exact h (acc ++ z) pins _ σ H Q (I.tok _) ⟨F, ρ, y', r, q, hz, k⟩
theorem dj_val {gj : EnvD -> Option Str} (he : DR X B e g) (h : DJ X B es gj) : DJ X B (.FormattedValue e (-1) none pos :: es) (jVal g gj) := by
  intro acc pins s σ H Q I ⟨F, ρ, y, r, hg, hz, k⟩
  unfold jVal at hg
  cases q : g ρ with
  | none => rw [q] at hg; cases hg
  | some d =>
    rw [q] at hg
    have hg : ((txtD d).bind fun z => (gj ρ).map fun y => z ++ y) = some y := hg
    cases q1 : txtD d with
    | none => rw [q1] at hg; cases hg
    | some z =>
      rw [q1] at hg
      have hg : ((gj ρ).map fun y => z ++ y) = some y := hg
      cases q2 : gj ρ with
      | none => rw [q2] at hg; cases hg
      | some y' =>
        rw [q2] at hg
        cases hg
        rw [<- app_assoc] at hz k
        refine joinParts_cons (FormattedValue_plain (thn (he pins s σ H (fun v H' => ∃ F', Ext F H F' H' /\ Rq X.kw F' H' d v) I ⟨F, ρ, d, r, q, fun v F' H' e1 p1 => ⟨F', e1, p1⟩⟩) fun v s1 h1 => ?_))
        obtain ⟨v', H1, I1, rv, F1, e1, p1⟩ := h1
        have fin : ∀ s2 : Shared, Inv X pins σ H1 s2 -> wpAny (model X.prog X.w) X.A (joinParts (acc ++ z) (evalEach es X.env)) (EP X pins σ Q) X.xe s2 := fun s2 I2 =>
          h (acc ++ z) pins s2 σ H1 Q I2 ⟨F1, ρ, y', r.ext e1, q2, hz, fun F' H' e2 => k F' H' (e1.trans e2)⟩
        have hl : (acc ++ z).length <= sizeLine := top_line (Nat.le_trans (app_le _ y') hz)
        unfold txtD at q1
        split at q1
        · cases q1
          cases p1.str
          obtain ⟨t, rfl⟩ := rv
          have hz' : z.length <= sizeLine := Nat.le_trans (by rw [Str.length_append]; omega) hl
          exact formatField_str (fun t' tk => ⟨hl, fin _ (I1.tok _)⟩) hz'
        · split at q1
          · rename_i i hi
            cases q1
            cases p1.int
            obtain ⟨t, rfl⟩ := rv
            exact formatField_int_small (few_log hi) ⟨hl, fin _ (I1.tok _)⟩
          · cases q1
        · cases q1
def gJ (gj : EnvD -> Option Str) : EnvD -> Option D := fun ρ => (gj ρ).bind fun y => if y.length <= TOP then some (.str y) else none
theorem de_joined {v1 v2 : Expr} {gj : EnvD -> Option Str} (h : DJ X B (v1 :: v2 :: es) gj) (hev : evalEach (v1 :: v2 :: es) X.env = eval v1 X.env :: eval v2 X.env :: evalEach es X.env := by rfl) : DE X B (.JoinedStr (v1 :: v2 :: es) pos) (gJ gj) := by
  intro pins s σ H Q I ⟨F, ρ, d, r, hg, k⟩
  unfold gJ at hg
  cases q : gj ρ with
  | none => rw [q] at hg; cases hg
  | some y =>
    rw [q] at hg
    have hg : (if y.length <= TOP then some (D.str y) else none) = some d := hg
    split at hg
    · rename_i hy
      cases hg
      have e0 : Str.empty ++ y = y := by
        obtain ⟨c⟩ := y
        show (⟨#[] ++ c⟩ : Str) = ⟨c⟩
        rw [Array.empty_append]
      refine JoinedStr_many ?_
      rw [<- hev]
      refine h Str.empty pins s σ H Q I ⟨F, ρ, y, r, q, by rw [e0]; exact hy, fun F' H' e1 => ?_⟩
      rw [e0]
      exact k _ F' H' e1 rfl
    · cases hg
end
section
variable {ρ : EnvD} {g go : EnvD -> Option D} {gs : EnvD -> Option (List D)} {gj : EnvD -> Option Str}
@[simp] theorem ev_gJ : gJ gj ρ = (gj ρ).bind fun y => if y.length <= TOP then some (.str y) else none := rfl
@[simp] theorem ev_jNil : jNil ρ = some Str.empty := rfl
@[simp] theorem ev_jStr {z : Str} : jStr z gj ρ = (gj ρ).map fun y => z ++ y := rfl
@[simp] theorem ev_jVal : jVal g gj ρ = ((g ρ).bind txtD).bind fun z => (gj ρ).map fun y => z ++ y := rfl
@[simp] theorem ev_txtS {y : Str} : txtD (.str y) = some y := rfl
@[simp] theorem ev_txtI {i : Int} : txtD (.int i) = if i.natAbs < FEW then some (numT i) else none := rfl
@[simp] theorem ev_fStr {i : Int} : fStr [.int i] = if i.natAbs < FEW then some (.str (numT i)) else none := rfl
@[simp] theorem ev_gSML {f : D -> List D -> Option (List D)} : gSML f go gs ρ = (go ρ).bind fun d => (gs ρ).bind fun ds => f d ds := rfl
@[simp] theorem ev_fPart {z y : Str} : fPart (.str z) [.str y] = if (y.length == 0) = false /\ z.length <= TOP then some (.tup ((part3 z y).map D.str)) else none := rfl
@[simp] theorem ev_fSplit {z y : Str} : fSplit (.str z) [.str y] = if (y.length == 0) = false /\ z.length + 2 <= TOP then some ((Txt.split z y).map D.str) else none := rfl
end
def compT (t : Tgt) (tc : EnvD -> Option Bool) (ge : EnvD -> Option OT) (ρ0 : EnvD) : List D -> Option (List OT)
  | [] => some []
  | d :: ds => (asgD t d ρ0).bind fun ρ1 => (tc ρ1).bind fun b => if b then (ge ρ1).bind fun y => (compT t tc ge ρ0 ds).map (y :: ·) else compT t tc ge ρ0 ds
@[simp] theorem ev_compT0 {t : Tgt} {tc : EnvD -> Option Bool} {ge : EnvD -> Option OT} {ρ : EnvD} : compT t tc ge ρ [] = some [] := rfl
@[simp] theorem ev_compTS {t : Tgt} {tc : EnvD -> Option Bool} {ge : EnvD -> Option OT} {ρ : EnvD} {d : D} {ds : List D} : compT t tc ge ρ (d :: ds) = (asgD t d ρ).bind fun ρ1 => (tc ρ1).bind fun b => if b then (ge ρ1).bind fun y => (compT t tc ge ρ ds).map (y :: ·) else compT t tc ge ρ ds := rfl
def gCompT (own : List Str) (cap : List (Str × Nat)) (t : Tgt) (tc : EnvD -> Option Bool) (ge : EnvD -> Option OT) (gi : EnvD -> Option (List D)) : EnvD -> Option OT := fun ρ =>
  (gi ρ).bind fun ds => if ds.length <= TOP then (compT t tc ge (List.replicate own.length none ++ capE ρ cap) ds).map OT.lst else none
section
variable {X : Cx} {B : Bs} {tg iter : Expr} {pos : Pos} {gi : EnvD -> Option (List D)}
theorem dtr_comp {elt : Expr} {ifs : List Expr} {scope : Scope} {own : List Str} {cap : List (Str × Nat)} {t : Tgt} {tc : EnvD -> Option Bool} {ge : EnvD -> Option OT} (hc : X.calm = true) (S : CompScope X scope own cap) (hi : DI X B (fun H => H) tg iter gi) (ht : ∀ i ∈ t.slots, i < own.length)
    (hin : ∀ (B' : Bs) C s₀ H₀ fp pn, PG (cxc X scope C (own ++ cap.map (·.1)) s₀ H₀ fp pn) tg (tgT X.kw t) /\ DIfs (cxc X scope C (own ++ cap.map (·.1)) s₀ H₀ fp pn) B' ifs tc /\ DTr (cxc X scope C (own ++ cap.map (·.1)) s₀ H₀ fp pn) B' elt ge)
    (hs : ∀ x, foldedSetIterable iter X.env x = pure x := by intro _; rfl) :
    DTr X B (.ListComp elt [⟨tg, iter, ifs, 0⟩] scope pos) (gCompT own cap t tc ge gi) := by
  refine pe_imp (pe_lc (tc := fun σ H Q => ∃ B', lT X.kw B' tc σ H Q) (te := fun σ H Q => ∃ B', lG X.kw B' (pT X.kw) ge σ H Q) hc S hi (fun C s₀ H₀ fp pn => ⟨(hin ⟨H₀, H₀⟩ C s₀ H₀ fp pn).1, fun pins s σ H Q I ⟨B', q⟩ => (hin B' C s₀ H₀ fp pn).2.1 pins s σ H Q I q, fun pins s σ H Q I ⟨B', q⟩ => (hin B' C s₀ H₀ fp pn).2.2 pins s σ H Q I q⟩) hs) ?_
  intro σ H Q ⟨F, ρ, outT, r, hg, k⟩
  unfold gCompT at hg
  cases q : gi ρ with
  | none => rw [q] at hg; cases hg
  | some ds =>
    rw [q] at hg
    have hg : (if ds.length <= TOP then (compT t tc ge (List.replicate own.length none ++ capE ρ cap) ds).map OT.lst else none) = some outT := hg
    split at hg
    · rename_i htop
      cases qo : compT t tc ge (List.replicate own.length none ++ capE ρ cap) ds with
      | none => rw [qo] at hg; cases hg
      | some out =>
      rw [qo] at hg
      cases hg
      replace hg := qo
      refine ⟨F, ρ, ds, r, q, fun J F1 H1 e1 jok => ?_⟩
      refine ⟨fun i m ys H2 => m = ds.length - i /\ i <= ds.length /\ ∃ F2 o1 o2, Ext F1 H1 F2 H2 /\ (RepOs X.kw F2 H2 o1 ys /\ (feetOs H2 o1 ys).Nodup /\ ∀ a ∈ feetOs H2 o1 ys, H a = none /\ F2 a = none) /\ o1.length <= i /\ compT t tc ge (List.replicate own.length none ++ capE ρ cap) (ds.drop i) = some o2 /\ out = o1 ++ o2,
        ⟨ds.length, rfl, Nat.zero_le _, F1, [], out, .refl e1.fh, ⟨rfl, .nil, fun a ha => nomatch ha⟩, Nat.le_refl _, hg, rfl⟩, ?_⟩
      rintro i m ys H2 ⟨rfl, hi, F2, o1, o2, e2, ⟨ry, nd, fr⟩, hl1, h2, rfl⟩
      refine ⟨top_line (by rw [<- RepOs.length ry]; omega), ?_⟩
      obtain ⟨j1, j2⟩ := jok F2 H2 e2.ff e2.fh e2.hh i
      by_cases hlt : i < ds.length
      · obtain ⟨go, yl⟩ := j1 hlt
        refine .inr ⟨go, fun ys' H' => ∃ F3 p1 p2, Ext F1 H1 F3 H' /\ (RepOs X.kw F3 H' p1 ys' /\ (feetOs H' p1 ys').Nodup /\ ∀ a ∈ feetOs H' p1 ys', H a = none /\ F3 a = none) /\ p1.length <= i + 1 /\ compT t tc ge (List.replicate own.length none ++ capE ρ cap) (ds.drop (i + 1)) = some p2 /\ o1 ++ o2 = p1 ++ p2, fun ys' H' ⟨F3, p1, p2, e3, r3, l3, h3, eo⟩ => ⟨ds.length - (i + 1), by omega, rfl, hlt, F3, p1, p2, e3, r3, l3, h3, eo⟩, fun x H3 hy σ1 hσ => ?_⟩
        obtain ⟨F3, d, e3, hd, rd⟩ := yl x H3 hy
        have hdd : ds.drop i = d :: ds.drop (i + 1) := by
          rw [List.drop_eq_getElem_cons hlt]
          congr 1
          rw [List.getElem?_eq_getElem hlt] at hd
          exact Option.some.inj hd
        rw [hdd] at h2
        simp only [compT] at h2
        cases q1 : asgD t d (List.replicate own.length none ++ capE ρ cap) with
        | none => rw [q1] at h2; cases h2
        | some ρ1 =>
          rw [q1] at h2
          have e13 := e2.trans e3
          refine tg_ok (cap_rep (own := own) (cap := cap) r e1 e13 hσ) rd q1 fun σ' r4 so => ⟨?_, ?_⟩
          · obtain ⟨σ1', l1, e4⟩ := so.pre (σ1 := σ1) rfl (fun j hj => by rw [hσ]; exact ht j hj)
            exact ⟨σ1', by rw [l1, hσ], e4⟩
          · have h2 : ((tc ρ1).bind fun b => if b then (ge ρ1).bind fun y => (compT t tc ge (List.replicate own.length none ++ capE ρ cap) (ds.drop (i + 1))).map (y :: ·) else compT t tc ge (List.replicate own.length none ++ capE ρ cap) (ds.drop (i + 1))) = some o2 := h2
            cases q2 : tc ρ1 with
            | none => rw [q2] at h2; cases h2
            | some bb =>
              rw [q2] at h2
              refine ⟨⟨F1, H1⟩, F3, ρ1, bb, r4, q2, fun F5 H5 e5 => ?_⟩
              cases bb with
              | false =>
                have eo := e3.trans e5
                obtain ⟨u1, u2⟩ := RepOs.ext eo.ff eo.hh ry
                exact iteF ⟨F5, o1, o2, e13.trans e5, ⟨u1, by rw [u2]; exact nd, fun a ha => by rw [u2] at ha; exact ⟨(fr a ha).1, keep_none eo (fr a ha).2 (RepOs.feet ry ha)⟩⟩, by omega, h2, rfl⟩
              | true =>
                have h2 : ((ge ρ1).bind fun y => (compT t tc ge (List.replicate own.length none ++ capE ρ cap) (ds.drop (i + 1))).map (y :: ·)) = some o2 := h2
                cases q3 : ge ρ1 with
                | none => rw [q3] at h2; cases h2
                | some y =>
                  rw [q3] at h2
                  have h2 : (compT t tc ge (List.replicate own.length none ++ capE ρ cap) (ds.drop (i + 1))).map (y :: ·) = some o2 := h2
                  cases q4 : compT t tc ge (List.replicate own.length none ++ capE ρ cap) (ds.drop (i + 1)) with
                  | none => rw [q4] at h2; cases h2
                  | some p2 =>
                    rw [q4] at h2
                    cases h2
                    refine iteT ⟨⟨F1, H1⟩, F5, ρ1, y, r4.ext e5, q3, fun v F6 H6 e6 p6 => ?_⟩
                    have eo := e3.trans (e5.trans e6)
                    obtain ⟨u1, u2⟩ := RepOs.ext eo.ff eo.hh ry
                    obtain ⟨w1, w2, w3⟩ := p6
                    have h5 : ∀ a, H5 a = none -> H a = none := fun a z => e1.hh.free ((e13.trans e5).hh.free z)
                    refine ⟨F6, o1 ++ [y], p2, e13.trans (e5.trans e6), ⟨RepOs.snoc w1 u1, ?_, ?_⟩, by simp; omega, rfl, by simp⟩
                    · rw [feetOs_snoc (RepOs.length u1), u2, List.nodup_append]
                      refine ⟨nd, w2, fun a ha b hb hab => ?_⟩
                      subst hab
                      exact RepOs.feet ry ha ((e3.trans e5).hh.free (w3 a hb).1)
                    · rw [feetOs_snoc (RepOs.length u1), u2]
                      intro a ha
                      rcases List.mem_append.mp ha with ha | ha
                      · exact ⟨(fr a ha).1, keep_none eo (fr a ha).2 (RepOs.feet ry ha)⟩
                      · exact ⟨h5 a (w3 a ha).1, (w3 a ha).2⟩
      · have hi' : i = ds.length := by omega
        have hdd : ds.drop i = [] := by rw [hi', List.drop_length]
        rw [hdd] at h2
        cases h2
        refine .inl ⟨j2 hi', fun D hD => ?_⟩
        have e := e1.trans e2
        obtain ⟨x1, x2⟩ := RepOs.ext (Same.refl F2) (same_upd (o := .lst ys) hD) ry
        have hfD : feetO (upd H2 D (.lst ys)) (.lst o1) (.ref D) = D :: feetOs H2 o1 ys := by
          simp only [feetO, itemsH_lst (upd_same (H := H2) (a := D) (o := .lst ys)), x2]
        rw [List.append_nil] at *
        refine k _ F2 _ (e.trans (.new e.fh hD)) ⟨⟨D, ys, rfl, upd_same, x1⟩, ?_, ?_⟩
        · rw [hfD]
          exact List.nodup_cons.mpr ⟨fun z => RepOs.feet ry z hD, nd⟩
        · rw [hfD]
          intro b hb
          rcases List.mem_cons.mp hb with rfl | hb
          · exact ⟨e.hh.free hD, e.fh.free hD⟩
          · exact fr b hb
    · cases hg
end
section
variable {K : KW} {B : Bs} {F H : Hp} {σ : St} {ρ : EnvD}
theorem puts_ne {u : OT} {p : List Nat} : ∀ {ts : List OT} {n q : Nat}, n ≠ q -> (puts ts n p u)[q]? = ts[q]?
  | [], _, _, _ => by simp [puts]
  | t :: ts, 0, 0, h => (h rfl).elim
  | t :: ts, 0, q + 1, _ => by simp [puts]
  | t :: ts, n + 1, 0, _ => by simp [puts]
  | t :: ts, n + 1, q + 1, h => by
    simp only [puts, List.getElem?_cons_succ]
    exact puts_ne (by omega)
theorem RepOs.one : ∀ {ts : List OT} {us : List V} {n : Nat} {t : OT} {z : V}, RepOs K F H ts us -> (feetOs H ts us).Nodup -> ts[n]? = some t -> us[n]? = some z -> RepO K F H t z /\ (feetO H t z).Nodup /\ ∀ a ∈ feetO H t z, a ∈ feetOs H ts us
  | [], _, _, _, _, _, _, h, _ => by simp at h
  | u :: ts, _, 0, t, z, ⟨v, r, e1, h1, h2⟩, nd, h, hz => by
    subst e1
    have h : u = t := by simpa using h
    have hz : v = z := by simpa using hz
    subst h hz
    have nd' : (feetO H u v ++ feetOs H ts r).Nodup := nd
    exact ⟨h1, (List.nodup_append.mp nd').1, fun a ha => List.mem_append_left _ ha⟩
  | u :: ts, _, n + 1, t, z, ⟨v, r, e1, h1, h2⟩, nd, h, hz => by
    subst e1
    have nd' : (feetO H u v ++ feetOs H ts r).Nodup := nd
    obtain ⟨k1, k2, k3⟩ := RepOs.one h2 (List.nodup_append.mp nd').2.1 (by simpa using h) (by simpa using hz)
    exact ⟨k1, k2, fun a ha => List.mem_append_right _ (k3 a ha)⟩
theorem Rep.row (r : Rep K B F σ H ρ) {i j n : Nat} {ts : List OT} {us : List V} {a : Addr} {t : OT} {z : V} (hij : i ≠ j) (hi : ρ[i]? = some (some (.tre (.lst ts)))) (hs : σ[i]? = some (some (.ref a))) (hj : ∀ x, ρ[j]? ≠ some (some x)) (hjl : j < ρ.length) (qa : H a = some (.lst us))
    (ht : ts[n]? = some t) (hz : us[n]? = some z) : Rep K B F (σ.set j (some z)) H ((ρ.set i none).set j (some (.tre t))) := by
  obtain ⟨v0, h0, ⟨a', us', ea, qa', ro⟩, rn, rf⟩ := r.ents i _ hi
  rw [hs] at h0; cases h0; cases ea
  rw [qa] at qa'; cases qa'
  have fe : feetO H (.lst ts) (.ref a) = a :: feetOs H ts us := by simp only [feetO, itemsH_lst qa]
  rw [fe] at rn rf
  obtain ⟨o1, o2, o3⟩ := RepOs.one ro (List.nodup_cons.mp rn).2 ht hz
  have hjs : j < σ.length := by rw [r.len]; exact hjl
  have old : ∀ {l : Nat} {x : En}, l ≠ j -> ((ρ.set i none).set j (some (.tre t)))[l]? = some (some x) -> l ≠ i /\ ρ[l]? = some (some x) := fun {l x} hl h => by
    rw [List.getElem?_set_ne (Ne.symm hl)] at h
    exact get_forget h
  have new : ∀ {x : En}, ((ρ.set i none).set j (some (.tre t)))[j]? = some (some x) -> x = .tre t := fun {x} h => by
    rw [List.getElem?_set_self (by rw [List.length_set]; exact hjl)] at h
    cases h; rfl
  have newv : ∀ {v : V}, (σ.set j (some z))[j]? = some (some v) -> v = z := fun {v} h => by
    rw [List.getElem?_set_self hjs] at h
    cases h; rfl
  refine ⟨r.ex, by simp [r.len], fun l x h => ?_, fun l k x y v w h1 h2 s1 s2 hne b hb => ?_⟩
  · by_cases hl : l = j
    · subst hl
      rw [new h]
      exact ⟨z, List.getElem?_set_self hjs, o1, o2, fun b hb => rf b (.tail _ (o3 b hb))⟩
    · obtain ⟨_, q⟩ := old hl h
      obtain ⟨w, g1, g2⟩ := r.ents l x q
      exact ⟨w, by rw [List.getElem?_set_ne (Ne.symm hl)]; exact g1, g2⟩
  · have mem : ∀ b, b ∈ feetO H t z -> b ∈ feetE H (.tre (.lst ts)) (.ref a) := fun b hb => by
      show b ∈ feetO H (.lst ts) (.ref a)
      rw [fe]; exact .tail _ (o3 b hb)
    by_cases hl : l = j
    · subst hl
      have hk : k ≠ l := Ne.symm hne
      rw [new h1, newv s1] at hb
      obtain ⟨hki, q⟩ := old hk h2
      rw [List.getElem?_set_ne (Ne.symm hk)] at s2
      exact r.dj i k _ y _ w hi q hs s2 (Ne.symm hki) b (mem b hb)
    · obtain ⟨hli, q⟩ := old hl h1
      rw [List.getElem?_set_ne (Ne.symm hl)] at s1
      by_cases hk : k = j
      · subst hk
        rw [new h2, newv s2]
        exact fun hb2 => r.dj l i x _ v _ q hi s1 hs hli b hb (mem b hb2)
      · obtain ⟨hki, q2⟩ := old hk h2
        rw [List.getElem?_set_ne (Ne.symm hk)] at s2
        exact r.dj l k x y v w q q2 s1 s2 hne b hb
end
def sAllTt (i j k : Nat) (gt : EnvD -> Option Bool) (f : List D -> List D -> Option (List D)) (es : List D) : SD := fun ρ => if j < ρ.length then (match ρ[i]? with
  | some (some (.tre (.lst ts))) => if (ts.all fun t => decide (gt ((ρ.set i none).set j (some (.tre t))) = some false)) = true then (mutN k f es (.lst ts) 0 ts.length).map fun t' => .next ((ρ.set j none).set i (some (.tre t'))) else none
  | _ => none) else none
theorem allTt_some {i j k : Nat} {gt : EnvD -> Option Bool} {f : List D -> List D -> Option (List D)} {es : List D} {ρ : EnvD} {fl : Fl} (h : sAllTt i j k gt f es ρ = some fl) : ∃ ts t', j < ρ.length /\ ρ[i]? = some (some (.tre (.lst ts))) /\ (∀ t ∈ ts, gt ((ρ.set i none).set j (some (.tre t))) = some false) /\ mutN k f es (.lst ts) 0 ts.length = some t' /\ fl = .next ((ρ.set j none).set i (some (.tre t'))) := by
  unfold sAllTt at h
  by_cases hj : j < ρ.length
  · rw [if_pos hj] at h
    split at h
    · rename_i ts hi
      split at h
      · rename_i hall
        cases q : mutN k f es (.lst ts) 0 ts.length with
        | none => rw [q] at h; cases h
        | some t' => rw [q] at h; cases h; exact ⟨ts, t', hj, hi, fun t ht => by simpa using List.all_eq_true.mp hall t ht, q, rfl⟩
      · cases h
    · cases h
  · rw [if_neg hj] at h; cases h
section
variable {X : Cx} {B : Bs} {tg e ck c re : Expr} {es : List Expr} {x y nm : Str} {pos p2 p3 p4 p5 ip rp apos cpos : Pos} {id : String} {r : V -> List V -> Hp -> VK -> Prop} {f : List D -> List D -> Option (List D)} {gs : EnvD -> Option (List D)} {dd : List D} {gt : EnvD -> Option Bool} {ge : EnvD -> Option D}
theorem ds_allTt (i j k : Nat) (hij : i ≠ j) (hp : PassesOwn (model X.prog X.w) X.A X.env X.xe) (hc : X.calm = true) (hy : PE X (.Name y p2) (tVar i)) (hx : PE X (.Name x p3) (tVar j)) (hgn : PG X tg (gName j)) (hk : PE X ck (tC (.int (k : Int)))) (hsx : PlainIx ck)
    (slot : Slot "list" nm id) (hty : typeOf (.builtin id) = pure (.type "method_descriptor")) (hm : MtR X id r) (ok : MutOk X.kw r f) (ha : DAs X B (e :: es) gs) (hgs : ∀ ρ, gs ρ = some dd) (ht : DT X B c gt) (hre : DE X B re ge)
    (hbase : attributeBase (.Subscript (.Name x p3) ck p4) nm X.env (eval (.Subscript (.Name x p3) ck p4) X.env) = eval (.Subscript (.Name x p3) ck p4) X.env := by rfl)
    (hfew : ((backTo cpos (starEach (e :: es) X.env)).all (fun x => !x.1) && (backToKw cpos (keywordEach [] X.env)).all (fun x => x.1.isSome)
      && decide ((e :: es).length + ([] : List Keyword).length + (if ([] : List Keyword).isEmpty then 0 else 1) < 30)) = true := by rfl)
    (hline : (apos.endLine == cpos.line) = true := by rfl) (hs : starEach (e :: es) X.env = (false, eval e X.env) :: starEach es X.env := by rfl) (hplain : (backTo cpos (starEach es X.env)).any (·.1) = false := by rfl)
    (hsw : swapsWith (.Call (.Attribute (.Subscript (.Name x p3) ck p4) nm apos) (e :: es) [] cpos) none p5.line X.env = pure false := by rfl)
    (hsI : ∀ z, foldedSetIterable (.Name y p2) X.env z = pure z := by intro _; rfl) :
    DS X B (.For tg (.Name y p2) [.If c [.Return (some re) rp] [] ip, .Expr (.Call (.Attribute (.Subscript (.Name x p3) ck p4) nm apos) (e :: es) [] cpos) p5] [] pos) (sAllTt i j k gt f dd) :=
  ps_imp (ps_for hp hc (pi_list hy) hgn (pss_cons (ps_if ht (pss_one (ps_ret hre)) pss_nil) (pss_one (ps_expr (pe_bm PySem.F.plainAttrs_list slot hty hm (pe_ix ix_seq hx hk hsx) ha hbase hfew hline hs hplain) hsw))) hsI) fun E σ H ⟨F, ρ, fl, rr, hg, kk⟩ => by
    obtain ⟨ts, t', hjr, hi, hall, hm', rfl⟩ := allTt_some hg
    obtain ⟨v0, h0, ⟨a, us, rfl, qa, ro⟩, rn, rf⟩ := rr.ents i _ hi
    have hl := RepOs.length ro
    have hii : i < ρ.length := (List.getElem?_eq_some_iff.mp hi).1
    refine ⟨.ref a, h0, a, rfl, ⟨us, .of qa⟩, ?_⟩
    refine for_list (xs := us) (fun n σ2 H2 => ∃ F2 ρ2 ts2, Rep X.kw B F2 σ2 H2 ρ2 /\ Same F F2 /\ (∀ z, ρ2[j]? ≠ some (some z)) /\ ρ2[i]? = some (some (.tre (.lst ts2))) /\ ρ2.set i (some (.tre t')) = (ρ.set j none).set i (some (.tre t')) /\ σ2[i]? = some (some (.ref a)) /\ H2 a = some (.lst us) /\ ts2.length = ts.length /\ (∀ q, n <= q -> ts2[q]? = ts[q]?) /\ mutN k f dd (.lst ts2) n (ts.length - n) = some t') ?_ ?_ ?_ ?_
    · exact ⟨F, ρ.set j none, ts, rr.forget j, Same.refl _, fun z h => (get_forget h).1 rfl, by rw [List.getElem?_set_ne (Ne.symm hij)]; exact hi, rfl, h0, qa, rfl, fun _ _ => rfl, hm'⟩
    · rintro n σ2 H2 _ ⟨F2, ρ2, ts2, _, _, _, _, _, _, q2, _⟩
      exact .of q2
    · rintro n z σ2 H2 hz ⟨F2, ρ2, ts2, r2, s2, n2, i2, e2, g2, q2, l2, k2', m2⟩
      have hn : n < us.length := (List.getElem?_eq_some_iff.mp hz).1
      have hjl2 : j < ρ2.length := by
        have := congrArg List.length e2
        simp only [List.length_set] at this
        omega
      obtain ⟨tn, htn⟩ : ∃ tn, ts2[n]? = some tn := ⟨_, List.getElem?_eq_getElem (by omega)⟩
      have rt := r2.row hij i2 g2 n2 hjl2 q2 htn hz
      have et : (ρ2.set i none).set j (some (.tre tn)) = (ρ.set i none).set j (some (.tre tn)) := by
        have e3 : (ρ2.set i (some (.tre t'))).set i none = ((ρ.set j none).set i (some (.tre t'))).set i none := by rw [e2]
        rw [List.set_set, List.set_set] at e3
        have e4 : (ρ.set j none).set i none = (ρ.set i none).set j none := List.set_comm none none (Ne.symm hij)
        rw [e3, e4, List.set_set]
      have hfalse : gt ((ρ2.set i none).set j (some (.tre tn))) = some false := by
        rw [et]
        refine hall tn ?_
        have : ts[n]? = some tn := by rw [<- k2' n (Nat.le_refl _)]; exact htn
        exact List.mem_of_getElem? this
      refine ⟨F2, _, false, rt, hfalse, fun F4 H4 e0 => ?_⟩
      refine iteF ?_
      replace r2 := r2.ext e0
      replace q2 : H4 a = some (.lst us) := e0.hh _ _ q2
      rw [show ts.length - n = (ts.length - (n + 1)) + 1 by omega] at m2
      obtain ⟨ds, ds', d1, d2, d3⟩ := mutN_step m2
      have d1' : gets ts2 n [k] = some (.lst (lfs ds)) := by simpa [OT.get] using d1
      obtain ⟨v0', h0', ⟨a', us', ea, qa', ro2⟩, rn2, rf2⟩ := r2.ents i _ i2
      rw [g2] at h0'; cases h0'; cases ea
      rw [q2] at qa'; cases qa'
      simp only [feetO, itemsH_lst q2, List.nodup_cons] at rn2
      obtain ⟨b, vs, c, ws, rfl, hcw, hwk, hat, _⟩ := row_at ro2 rn2.2 d1' hz
      have r3 := r2.loose n2 (.ref c)
      have hjl : j < σ2.length := by
        rw [r2.len]
        have := congrArg List.length e2
        simp only [List.length_set] at this
        omega
      have hjs : (σ2.set j (some (.ref c)))[j]? = some (some (.ref c)) := List.getElem?_set_self hjl
      have his : (σ2.set j (some (.ref c)))[i]? = some (some (.ref a)) := by rw [List.getElem?_set_ne (Ne.symm hij)]; exact g2
      refine ⟨.ref c, hjs, ?_⟩
      have hix : ∀ Q : VK, Q (.ref b) H4 -> rIx X.K (.ref c) (.int (k : Int)) H4 Q := fun Q hQ => by
        rcases hcw with q | q
        · exact .inl ⟨c, ws, (k : Int), .ref b, rfl, rfl, .of q, atI_at k hwk, hQ⟩
        · exact .inr (.inl ⟨c, ws, (k : Int), .ref b, rfl, rfl, .of q, atI_at k hwk, hQ⟩)
      refine hix _ ?_
      refine ⟨.inl ⟨rfl, _, .of hat.hb⟩, F4, ρ2, dd, r3, hgs ρ2, fun vs3 F3 H3 e3 p3 => ?_⟩
      have r4 := r3.ext e3
      obtain ⟨v0', h0', ⟨a', us', ea, qa', ro4⟩, rn4, rf4⟩ := r4.ents i _ i2
      rw [his] at h0'; cases h0'; cases ea
      have q4 : H3 a = some (.lst us) := e3.hh _ _ q2
      rw [q4] at qa'; cases qa'
      have rn4' := rn4
      simp only [feetO, itemsH_lst q4, List.nodup_cons] at rn4'
      obtain ⟨b2, vs2, c2, ws2, ec, hcw2, hwk2, at2, w2⟩ := row_at ro4 rn4'.2 d1' hz
      cases ec
      have hb : b2 = b := by
        rcases hcw with q | q <;> rcases hcw2 with q' | q' <;> rw [e3.hh _ _ q] at q' <;> cases q'
        · rw [hwk] at hwk2; cases hwk2; rfl
        · rw [hwk] at hwk2; cases hwk2; rfl
      subst hb
      have hne : a ≠ b2 := fun z => rn4'.1 (z ▸ at2.mem)
      refine ok F3 H3 b2 vs2 ds vs3 dd ds' _ at2.hb at2.rp p3 d2 fun u vs' h => ?_
      obtain ⟨k1, k2⟩ := w2 ds' vs' h
      have q5 : upd H3 b2 (.lst vs') a = some (.lst us) := by rw [upd_ne hne]; exact q4
      have hfe : feetO (upd H3 b2 (.lst vs')) (.lst (puts ts2 n [k] (.lst (lfs ds')))) (.ref a) = feetO H3 (.lst ts2) (.ref a) := by simp only [feetO, itemsH_lst q5, itemsH_lst q4, k2]
      have hE : RepE X.kw B F3 (upd H3 b2 (.lst vs')) (.tre (.lst (puts ts2 n [k] (.lst (lfs ds'))))) (.ref a) := ⟨⟨a, us, rfl, q5, k1⟩, by rw [hfe]; exact rn4, fun z hz => rf4 z (by rw [hfe] at hz; exact hz)⟩
      have r5 := r4.writeG (y := .tre (.lst (puts ts2 n [k] (.lst (lfs ds'))))) i2 his (a := b2) (o := .lst vs') (by show b2 ∈ feetO H3 (.lst ts2) (.ref a); simp only [feetO, itemsH_lst q4, List.mem_cons]; exact .inr at2.mem) hE (fun z hz => by have hz' : z ∈ feetO (upd H3 b2 (.lst vs')) (.lst (puts ts2 n [k] (.lst (lfs ds')))) (.ref a) := hz; rw [hfe] at hz'; exact hz')
      have hil : i < ρ2.length := (List.getElem?_eq_some_iff.mp i2).1
      refine ⟨F3, _, puts ts2 n [k] (.lst (lfs ds')), r5, s2.trans (e0.ff.trans e3.ff), fun z hz => n2 z (by rw [List.getElem?_set_ne hij] at hz; exact hz), List.getElem?_set_self hil, by rw [List.set_set]; exact e2, his, q5, by rw [puts_len]; exact l2, fun q hq => by rw [puts_ne (by omega)]; exact k2' q (by omega), ?_⟩
      rw [put_lst] at d3
      exact d3
    · rintro σ2 H2 ⟨F2, ρ2, ts2, r2, s2, n2, i2, e2, g2, q2, l2, _, m2⟩
      rw [hl, Nat.sub_self] at m2
      cases m2
      refine kk σ2 F2 H2 ?_ s2
      rw [<- e2]
      have : ρ2.set i (some (.tre (.lst ts2))) = ρ2 := by
        apply List.ext_getElem?
        intro q
        by_cases hq : i = q
        · subst hq
          rw [List.getElem?_set_self (List.getElem?_eq_some_iff.mp i2).1, i2]
        · rw [List.getElem?_set_ne hq]
      rw [this]
      exact r2
end
end Dv
namespace QM
variable {α : Type} [DecidableEq α]
abbrev Tk (α : Type) := α × Int
def srv (m : Nat) (q : List (Tk α)) : List α := (q.take m).map (·.1)
def beh (m : Nat) (q : List (Tk α)) : List (Tk α) := ((q.take m).filter fun t => decide (1 < t.2)).map (fun t => (t.1, t.2 - 1)) ++ q.drop m
def walk (f : Int -> Int) : Int -> List (Tk α) -> List (Int × List α) -> Option (List (Tk α))
  | _, q, [] => some q
  | due, q, r :: rs => if q = [] ∨ r.1 ≠ due ∨ r.2 ≠ srv (f due).toNat q then none else walk f (due + 1) (beh (f due).toNat q) rs
end QM
namespace Dv
open PySem PySem.Spec L2 L3 L4 QM
open PyProof.Rows hiding St
def tkD (t : Str × Int) : D := .tup [.str t.1, .int t.2]
def rnD (r : Int × List Str) : D := .tup [.int r.1, .lst (r.2.map D.str)]
abbrev Ok (x : Str) : Prop := PyData.strOk x = true
theorem toPs_map {α : Type} {f : α -> D} : ∀ (l : List α), toPs (l.map f) = l.map fun x => toP (f x)
  | [] => rfl
  | x :: l => by simp [toPs, toPs_map l]
theorem eqvAll_map {α : Type} [DecidableEq α] {f : α -> PyData} (hf : ∀ x y, PyData.eqv (f x) (f y) = decide (x = y)) : ∀ (xs ys : List α), PyData.eqvAll (xs.map f) (ys.map f) = decide (xs = ys)
  | [], [] => rfl
  | [], _ :: _ => rfl
  | _ :: _, [] => rfl
  | x :: xs, y :: ys => by
    show (PyData.eqv (f x) (f y) && PyData.eqvAll (xs.map f) (ys.map f)) = _
    rw [hf, eqvAll_map hf xs ys]
    by_cases h1 : x = y <;> by_cases h2 : xs = ys <;> simp [h1, h2]
theorem eqv_str (x y : Str) : PyData.eqv (.str x) (.str y) = decide (x = y) := by
  show (x == y) = _
  by_cases h : x = y
  · subst h; simp
  · simp [h]
theorem eqv_int (x y : Int) : PyData.eqv (.int x) (.int y) = decide (x = y) := by
  show (x == y) = _
  by_cases h : x = y
  · subst h; simp
  · simp [h]
theorem eqv_strs (xs ys : List Str) : PyData.eqv (toP (.lst (xs.map D.str))) (toP (.lst (ys.map D.str))) = decide (xs = ys) := by
  show PyData.eqvAll (toPs (xs.map D.str)) (toPs (ys.map D.str)) = _
  rw [toPs_map, toPs_map]
  exact eqvAll_map (f := PyData.str) eqv_str xs ys
theorem eqv_tk (x y : Str × Int) : PyData.eqv (toP (tkD x)) (toP (tkD y)) = decide (x = y) := by
  show (PyData.eqv (.str x.1) (.str y.1) && (PyData.eqv (.int x.2) (.int y.2) && true)) = _
  rw [eqv_str, eqv_int]
  obtain ⟨a, b⟩ := x
  obtain ⟨c, d⟩ := y
  by_cases h1 : a = c <;> by_cases h2 : b = d <;> simp [h1, h2]
theorem eqv_tks (xs ys : List (Str × Int)) : PyData.eqv (toP (.lst (xs.map tkD))) (toP (.lst (ys.map tkD))) = decide (xs = ys) := by
  show PyData.eqvAll (toPs (xs.map tkD)) (toPs (ys.map tkD)) = _
  rw [toPs_map, toPs_map]
  exact eqvAll_map (f := fun x => toP (tkD x)) eqv_tk xs ys
theorem eqv_rn (x y : Int × List Str) : PyData.eqv (toP (rnD x)) (toP (rnD y)) = decide (x = y) := by
  show (PyData.eqv (.int x.1) (.int y.1) && (PyData.eqv (toP (.lst (x.2.map D.str))) (toP (.lst (y.2.map D.str))) && true)) = _
  rw [eqv_strs, eqv_int]
  obtain ⟨a, b⟩ := x
  obtain ⟨c, d⟩ := y
  by_cases h1 : a = c <;> by_cases h2 : b = d <;> simp [h1, h2]
theorem eqv_rns (xs ys : List (Int × List Str)) : PyData.eqv (toP (.lst (xs.map rnD))) (toP (.lst (ys.map rnD))) = decide (xs = ys) := by
  show PyData.eqvAll (toPs (xs.map rnD)) (toPs (ys.map rnD)) = _
  rw [toPs_map, toPs_map]
  exact eqvAll_map (f := fun x => toP (rnD x)) eqv_rn xs ys
theorem lay_all {α : Type} {f : α -> PyData} : ∀ (xs : List α), (∀ x ∈ xs, PyData.canLay0 (f x) = true) -> PyData.canLayAll0 (xs.map f) = true
  | [], _ => rfl
  | x :: xs, h => by
    show (PyData.canLay0 (f x) && PyData.canLayAll0 (xs.map f)) = true
    rw [h x (by simp), lay_all xs fun y hy => h y (by simp [hy])]; rfl
theorem depth_all {α : Type} {f : α -> PyData} {n : Nat} : ∀ (xs : List α), (∀ x ∈ xs, PyData.depth (f x) <= n) -> PyData.depthAll (xs.map f) <= n
  | [], _ => Nat.zero_le _
  | x :: xs, h => by
    have h1 := h x (by simp)
    have h2 := depth_all xs fun y hy => h y (by simp [hy])
    show max (PyData.depth (f x)) (PyData.depthAll (xs.map f)) <= n
    omega
def Lay (n : Nat) (d : D) : Prop := (toP d).canLay0 = true /\ (toP d).depth <= n
theorem Lay.ok {n : Nat} {d : D} (h : Lay n d) (hn : n <= 64) : eqOk d = true := by
  unfold eqOk SeqAt.shaped
  rw [h.1]
  simpa using Nat.le_trans h.2 hn
theorem lay_int {i : Int} : Lay 0 (.int i) := ⟨rfl, Nat.le_refl _⟩
theorem lay_str {x : Str} (h : Ok x) : Lay 0 (.str x) := ⟨h, Nat.le_refl _⟩
theorem lay_lst {α : Type} {f : α -> D} {n : Nat} {xs : List α} (h : ∀ x ∈ xs, Lay n (f x)) : Lay (n + 1) (.lst (xs.map f)) := by
  refine ⟨?_, ?_⟩
  · show PyData.canLayAll0 (toPs (xs.map f)) = true
    rw [toPs_map]; exact lay_all xs fun x hx => (h x hx).1
  · show PyData.depthAll (toPs (xs.map f)) + 1 <= n + 1
    rw [toPs_map]
    exact Nat.succ_le_succ (depth_all xs fun x hx => (h x hx).2)
theorem lay_tk {t : Str × Int} (h : Ok t.1) : Lay 1 (tkD t) := by
  refine ⟨?_, ?_⟩
  · show (PyData.canLay0 (.str t.1) && (PyData.canLay0 (.int t.2) && true)) = true
    rw [show PyData.canLay0 (.str t.1) = true from h]; rfl
  · show max 0 (max 0 0) + 1 <= 1; omega
theorem lay_strs {xs : List Str} (h : ∀ x ∈ xs, Ok x) : Lay 1 (.lst (xs.map D.str)) := lay_lst fun x hx => lay_str (h x hx)
theorem lay_tks {q : List (Str × Int)} (h : ∀ t ∈ q, Ok t.1) : Lay 2 (.lst (q.map tkD)) := lay_lst fun t ht => lay_tk (h t ht)
theorem lay_rn {r : Int × List Str} (h : ∀ x ∈ r.2, Ok x) : Lay 2 (rnD r) := by
  obtain ⟨h1, h2⟩ := lay_strs h
  refine ⟨?_, ?_⟩
  · show (PyData.canLay0 (.int r.1) && ((toP (.lst (r.2.map D.str))).canLay0 && true)) = true
    rw [h1]; rfl
  · show max 0 (max ((toP (.lst (r.2.map D.str))).depth) 0) + 1 <= 2; omega
theorem lay_rns {rs : List (Int × List Str)} (h : ∀ r ∈ rs, ∀ x ∈ r.2, Ok x) : Lay 3 (.lst (rs.map rnD)) := lay_lst fun r hr => lay_rn (h r hr)
theorem fEq_of {neg : Bool} {x y : D} {n m : Nat} {b : Bool} (hx : Lay n x) (hy : Lay m y) (hn : n <= 64) (hm : m <= 64) (e : PyData.eqv (toP x) (toP y) = b) : fEq neg x y = some (.bl (if neg then !b else b)) := by
  unfold fEq eqD
  rw [hx.ok hn, hy.ok hm, e]; rfl
theorem eq_strs {neg : Bool} {xs ys : List Str} (hx : ∀ x ∈ xs, Ok x) (hy : ∀ x ∈ ys, Ok x) : fEq neg (.lst (xs.map D.str)) (.lst (ys.map D.str)) = some (.bl (if neg then !decide (xs = ys) else decide (xs = ys))) :=
  fEq_of (lay_strs hx) (lay_strs hy) (by decide) (by decide) (eqv_strs xs ys)
theorem eq_tks {neg : Bool} {xs ys : List (Str × Int)} (hx : ∀ x ∈ xs, Ok x.1) (hy : ∀ x ∈ ys, Ok x.1) : fEq neg (.lst (xs.map tkD)) (.lst (ys.map tkD)) = some (.bl (if neg then !decide (xs = ys) else decide (xs = ys))) :=
  fEq_of (lay_tks hx) (lay_tks hy) (by decide) (by decide) (eqv_tks xs ys)
theorem eq_strs0 {neg : Bool} {xs : List Str} (hx : ∀ x ∈ xs, Ok x) : fEq neg (.lst (xs.map D.str)) (.lst []) = some (.bl (if neg then !decide (xs = []) else decide (xs = []))) := eq_strs (ys := []) hx (by simp)
theorem eq_rns {neg : Bool} {xs ys : List (Int × List Str)} (hx : ∀ r ∈ xs, ∀ x ∈ r.2, Ok x) (hy : ∀ r ∈ ys, ∀ x ∈ r.2, Ok x) : fEq neg (.lst (xs.map rnD)) (.lst (ys.map rnD)) = some (.bl (if neg then !decide (xs = ys) else decide (xs = ys))) :=
  fEq_of (lay_rns hx) (lay_rns hy) (by decide) (by decide) (eqv_rns xs ys)
end Dv
namespace QM
variable {α : Type} [DecidableEq α]
inductive Run (f : Int -> Int) : Int -> List (Tk α) -> List (Int × List α) -> Prop
  | nil (x : Int) : Run f x [] []
  | cons {x : Int} {q : List (Tk α)} {rs : List (Int × List α)} : q ≠ [] -> Run f (x + 1) (beh (f x).toNat q) rs -> Run f x q ((x, srv (f x).toNat q) :: rs)
variable {f : Int -> Int} {x : Int} {q q' : List (Tk α)} {rows rows' tl : List (Int × List α)} {v : α}
end QM
namespace Dv
open PySem PySem.Spec L2 L3 L4 QM
open PyProof.Rows hiding St
def mk (l : List Nat) : Str := ⟨l.toArray⟩
theorem mk_app (a b : List Nat) : mk a ++ mk b = mk (a ++ b) := by
  show (⟨a.toArray ++ b.toArray⟩ : Str) = ⟨(a ++ b).toArray⟩
  simp
theorem mk_len (l : List Nat) : (mk l).length = l.length := by simp [mk, Str.length]
theorem item_mk {l : List Nat} {a : Int} (h : l.length <= TOP) (h1 : 0 <= a) (h2 : a < l.length) : fItem (.str (mk l)) (.int a) = some (.str (mk [l.getD a.toNat 0])) := by
  rw [ev_fItemS, if_pos (by rw [mk_len]; exact h)]
  obtain ⟨v, e1, e2⟩ := atI_pos (xs := l) h1 h2
  have e3 : l.getD a.toNat 0 = v := by rw [List.getD_eq_getElem?_getD, e2]; rfl
  rw [e3, show (mk l).cps.toList = l by simp [mk], e1]
  rfl
theorem glue_mk : ∀ (rest : List (List Nat)) (acc : List Nat), ((rest.map mk).foldl (fun acc p => acc ++ ("" : Str).cps ++ p.cps) acc.toArray) = (acc ++ rest.flatten).toArray
  | [], acc => by simp
  | l :: rest, acc => by
    have e : ("" : Str).cps = #[] := by decide +kernel
    rw [List.map_cons, List.foldl_cons, e]
    have e2 : acc.toArray ++ #[] ++ (mk l).cps = (acc ++ l).toArray := by simp [mk]
    rw [e2]
    have ih := glue_mk rest (acc ++ l)
    rw [e] at ih
    rw [ih]; simp
theorem join_mk : ∀ (ls : List (List Nat)), Txt.join "" (ls.map mk) = mk ls.flatten
  | [] => by
    show (Builtin.Str.glued "" [] : Str) = mk []
    decide +kernel
  | l :: ls => by
    show (⟨((ls.map mk)).foldl (fun acc p => acc ++ ("" : Str).cps ++ p.cps) (mk l).cps⟩ : Str) = mk (l :: ls).flatten
    have := glue_mk ls l
    rw [show (mk l).cps = l.toArray from rfl, this]
    rfl
def SIGNS : Str := "abcdefghijklmnopqrstuvwxyz0123456789"
def S36 : List Nat := [97, 98, 99, 100, 101, 102, 103, 104, 105, 106, 107, 108, 109, 110, 111, 112, 113, 114, 115, 116, 117, 118, 119, 120, 121, 122, 48, 49, 50, 51, 52, 53, 54, 55, 56, 57]
theorem signs_mk : SIGNS = mk S36 := by decide +kernel
def sg (a : Int) : Nat := S36.getD a.toNat 0
theorem sg_item {a : Int} (h1 : 0 <= a) (h2 : a < 36) : fItem (.str SIGNS) (.int a) = some (.str (mk [sg a])) := by
  rw [signs_mk]
  have hl : (S36.length : Int) = 36 := by decide
  exact item_mk (by decide) h1 (by omega)
theorem sg_mem {a : Int} (h1 : 0 <= a) (h2 : a < 36) : sg a ∈ S36 := by
  unfold sg
  have hl : S36.length = 36 := by decide
  have : a.toNat < S36.length := by omega
  rw [List.getD_eq_getElem?_getD, List.getElem?_eq_getElem this]
  exact List.getElem_mem _
theorem sg_inj {a b : Int} (h1 : 0 <= a) (h2 : a < 36) (h3 : 0 <= b) (h4 : b < 36) (e : sg a = sg b) : a = b := by
  unfold sg at e
  have hl : S36.length = 36 := by decide
  have ha : a.toNat < S36.length := by omega
  have hb : b.toNat < S36.length := by omega
  rw [List.getD_eq_getElem?_getD, List.getD_eq_getElem?_getD, List.getElem?_eq_getElem ha, List.getElem?_eq_getElem hb] at e
  have nd : S36.Nodup := by decide +kernel
  have := (List.getElem_inj nd).mp e
  omega
def NameOk (x : Str) : Prop := ∃ c cs, x = mk (c :: cs) /\ c ∈ S36.take 26 /\ (∀ d ∈ cs, d ∈ S36) /\ cs.length <= 7
theorem mk_ok {l : List Nat} (h : ∀ d ∈ l, d ∈ S36) : Ok (mk l) := by
  show (mk l).cps.all (· < 0x110000) = true
  rw [Array.all_eq_true']
  intro c hc
  have hc : c ∈ l := by simpa [mk] using hc
  have := h c hc
  have all : S36.all (fun c => decide (c < 0x110000)) = true := by decide
  exact List.all_eq_true.mp all c this
theorem NameOk.ok {x : Str} (h : NameOk x) : Ok x := by
  obtain ⟨c, cs, rfl, h1, h2, _⟩ := h
  exact mk_ok fun d hd => by
    rcases List.mem_cons.mp hd with rfl | hd
    · exact List.mem_of_mem_take h1
    · exact h2 d hd
theorem in_letters {c : Nat} (h : c ∈ S36.take 26) : (Builtin.Str.occurrences ("abcdefghijklmnopqrstuvwxyz" : Str) (mk [c]) 0 ("abcdefghijklmnopqrstuvwxyz" : Str).length 1).isEmpty = false := by
  have all : (S36.take 26).all (fun c => !(Builtin.Str.occurrences ("abcdefghijklmnopqrstuvwxyz" : Str) (mk [c]) 0 ("abcdefghijklmnopqrstuvwxyz" : Str).length 1).isEmpty) = true := by decide +kernel
  simpa using List.all_eq_true.mp all c h
theorem in_signs {c : Nat} (h : c ∈ S36) : (Builtin.Str.occurrences (("abcdefghijklmnopqrstuvwxyz" : Str) ++ ("0123456789" : Str)) (mk [c]) 0 (("abcdefghijklmnopqrstuvwxyz" : Str) ++ ("0123456789" : Str)).length 1).isEmpty = false := by
  have all : S36.all (fun c => !(Builtin.Str.occurrences (("abcdefghijklmnopqrstuvwxyz" : Str) ++ ("0123456789" : Str)) (mk [c]) 0 (("abcdefghijklmnopqrstuvwxyz" : Str) ++ ("0123456789" : Str)).length 1).isEmpty) = true := by decide +kernel
  simpa using List.all_eq_true.mp all c h
theorem ch_mk (l : List Nat) : chD (mk l) = l.map fun c => D.str (mk [c]) := by simp [chD, mk]
end Dv
namespace HM
abbrev Row := Int × Int
def Pos (l : List Row) : Prop := ∀ r ∈ l, 0 < r.1 /\ 0 <= r.2
def nextC (rest : Int) : List Row -> Int
  | [] => rest
  | r :: _ => r.2
def Norm (rest : Int) : List Row -> Prop
  | [] => True
  | r :: rs => nextC rest rs ≠ r.2 /\ Norm rest rs
def Inv (acc : List Row) : Prop := acc = [] ∨ ∃ pre a c, acc = pre ++ [(a, c)] /\ Norm c pre
structure Same {α : Type} (rest : Int) (Φ : List Row -> α) : Prop where
  merge : ∀ pre a b c tl, Pos pre -> Pos tl -> 0 < a -> 0 < b -> Φ (pre ++ (a, c) :: (b, c) :: tl) = Φ (pre ++ (a + b, c) :: tl)
  drop : ∀ pre a, Pos pre -> 0 < a -> Φ (pre ++ [(a, rest)]) = Φ pre
end HM
namespace Dv
open PySem PySem.Spec L2 L3 L4 QM
open PyProof.Rows hiding St
abbrev SI := List (Str × Int)
def kv (q : SI) : List (Key × D) := q.map fun t => (.inr t.1, .int t.2)
end Dv
namespace QM
variable {α : Type} [DecidableEq α]
inductive Eas : List (Tk α) -> List (Tk α) -> Prop
  | nil : Eas [] []
  | skip {t : Tk α} {p q : List (Tk α)} : Eas p q -> Eas p (t :: q)
  | keep {n : α} {a b : Int} {p q : List (Tk α)} : b <= a -> Eas p q -> Eas ((n, b) :: p) ((n, a) :: q)
def val (q : List (Tk α)) (n : α) : Int := ((q.find? fun t => decide (t.1 = n)).map (·.2)).getD 0
variable {f g : Int -> Int}
end QM
namespace Dv
open PySem PySem.Spec L2 L3 L4 QM
open PyProof.Rows hiding St
variable {f : Int -> Int}
def ra (f : Int -> Int) : Int -> SI -> Nat -> List (Int × List Str)
  | _, _, 0 => []
  | x, A, k + 1 => (x, srv (f x).toNat A) :: ra f (x + 1) (beh (f x).toNat A) k
def hb (rows : List (Int × List Str)) (n : Str) (t : Int) : Nat := (rows.filter fun r => decide (r.1 <= t) && decide (n ∈ r.2)).length
end Dv
namespace Dv
open PySem PySem.Spec L2 L3 L4
open PyProof.Rows hiding St
section
variable {i : Nat} {g : EnvD -> Option D} {gl gi : EnvD -> Option (List D)} {gk : EnvD -> Option (List (Key × D))} {gb : EnvD -> Option Bool} {b s1 s2 : SD} {ρ ρ' : EnvD} {d : D} {ds : List D} {kvs : List (Key × D)} {r : Option Fl} {t : Tgt}
theorem set_step (h : g ρ = some d) (k : b (ρ.set i (some (.val d))) = r) : sSeq (sSet i g) b ρ = r := by
  rw [<- k]
  show thenB ((g ρ).map fun d => Fl.next (ρ.set i (some (.val d)))) b = _
  rw [h]; rfl
theorem setA_step (h : gl ρ = some ds) (k : b (ρ.set i (some (.acc ds))) = r) : sSeq (sSetA i gl) b ρ = r := by
  rw [<- k]
  show thenB ((gl ρ).map fun d => Fl.next (ρ.set i (some (.acc d)))) b = _
  rw [h]; rfl
theorem for_step (h : gi ρ = some ds) (h2 : forD t s1 ds ρ = some (.next ρ')) (k : b ρ' = r) : sSeq (sFor t gi s1) b ρ = r := by
  rw [<- k]
  show thenB ((gi ρ).bind fun ds => forD t s1 ds ρ) b = _
  rw [h]
  show thenB (forD t s1 ds ρ) b = _
  rw [h2]; rfl
theorem no_step (h : gb ρ = some false) (k : b ρ = r) : sSeq (sIf gb s1 sNext) b ρ = r := by
  rw [<- k]
  show thenB ((gb ρ).bind fun c => if c then s1 ρ else sNext ρ) b = _
  rw [h]; rfl
end
end Dv
namespace QX
open PySem PySem.StrLaws PySem.Builtin PySem.Builtin.Str
def ml (l : List Nat) : PySem.Str := ⟨l.toArray⟩
theorem ml_list (l : List Nat) : (ml l).cps.toList = l := by simp [ml]
theorem ml_len (l : List Nat) : (ml l).length = l.length := by simp [ml, PySem.Str.length]
theorem ml_eq {x : PySem.Str} {l : List Nat} (h : x.cps.toList = l) : x = ml l := by
  obtain ⟨a⟩ := x
  subst h
  simp [ml]
def hitsL (sub : List Nat) : Nat -> List Nat -> List Nat
  | _, [] => []
  | k, a :: l => if sub.isPrefixOf (a :: l) then k :: hitsL sub (k + 1) l else hitsL sub (k + 1) l
theorem hits_ge (sub : List Nat) : ∀ (l : List Nat) (k i : Nat), i ∈ hitsL sub k l -> k <= i
  | [], k, i, h => by simp [hitsL] at h
  | a :: l, k, i, h => by
    simp only [hitsL] at h
    split at h
    · rcases List.mem_cons.mp h with rfl | h
      · exact Nat.le_refl _
      · have := hits_ge sub l (k + 1) i h; omega
    · have := hits_ge sub l (k + 1) i h; omega
theorem hits_pass {c : Nat} {cs : List Nat} : ∀ (p l : List Nat) (k : Nat), c ∉ p -> hitsL (c :: cs) k (p ++ l) = hitsL (c :: cs) (k + p.length) l
  | [], l, k, _ => rfl
  | a :: p, l, k, h => by
    have hne : ¬ c = a := fun z => h (by simp [z])
    have ih := hits_pass p l (k + 1) (c := c) (cs := cs) fun z => h (by simp [z])
    simp only [List.cons_append, hitsL, List.isPrefixOf_cons₂, List.length_cons]
    rw [if_neg (by simp [hne]), ih]
    congr 1; omega
theorem hits_word {c : Nat} {cs : List Nat} (hc : c ∉ cs) (l : List Nat) (k : Nat) : hitsL (c :: cs) k (c :: cs ++ l) = k :: hitsL (c :: cs) (k + (c :: cs).length) l := by
  show hitsL (c :: cs) k (c :: (cs ++ l)) = _
  simp only [hitsL]
  rw [if_pos (by simp), hits_pass cs l (k + 1) hc]
  congr 2
  simp; omega
theorem at_iff {sub : List Nat} {pre : List Nat} {a : Nat} {suf : List Nat} : (pre.length + (ml sub).length <= (pre ++ a :: suf).length /\ subAt (ml (pre ++ a :: suf)) (ml sub) pre.length = true) ↔ sub.isPrefixOf (a :: suf) = true := by
  rw [subAt_eq, ml_list, ml_list, ml_len, List.drop_left, List.isPrefixOf_iff_prefix]
  constructor
  · rintro ⟨_, h⟩
    have h : (a :: suf).take sub.length = sub := by simpa using h
    exact List.prefix_iff_eq_take.mpr h.symm
  · intro h
    refine ⟨?_, ?_⟩
    · have := h.length_le
      simp only [List.length_append]; omega
    · have := List.prefix_iff_eq_take.mp h
      simp [<- this]
theorem occ_run {c : Nat} {cs : List Nat} (hc : c ∉ cs) (limit : Nat) (L : List Nat) : ∀ (suf pre : List Nat) (st : Array Nat × Nat), L = pre ++ suf -> (∀ i ∈ hitsL (c :: cs) pre.length suf, st.2 <= i) ->
    (forIn (List.range' pre.length (suf.length + 1)) st (occBody (ml L) (ml (c :: cs)) L.length limit)).run.fst.toList = st.1.toList ++ (hitsL (c :: cs) pre.length suf).take (limit - st.1.size)
  | [], pre, st, e, h => by
    have hn : ¬ (((st.1.size < limit /\ st.2 <= pre.length) /\ pre.length + (ml (c :: cs)).length <= L.length) /\ subAt (ml L) (ml (c :: cs)) pre.length = true) := fun z => by
      have := z.1.2
      rw [ml_len, e] at this
      simp at this
      omega
    simp only [List.length_nil, Nat.zero_add, List.range'_one, List.forIn_cons, List.forIn_nil]
    unfold occBody
    rw [if_neg hn]
    simp [hitsL]
  | a :: suf, pre, st, e, h => by
    have e' : L = (pre ++ [a]) ++ suf := by rw [e]; simp
    have el : (pre ++ [a]).length = pre.length + 1 := by simp
    rw [show (a :: suf).length + 1 = (suf.length + 1) + 1 from rfl, List.range'_succ, List.forIn_cons]
    unfold occBody
    have hi := at_iff (sub := c :: cs) (pre := pre) (a := a) (suf := suf)
    rw [<- e] at hi
    by_cases hp : (c :: cs).isPrefixOf (a :: suf) = true
    · have hm : pre.length ∈ hitsL (c :: cs) pre.length (a :: suf) := by simp only [hitsL, hp, if_true]; exact List.mem_cons_self
      have hfree := h _ hm
      have hh : hitsL (c :: cs) pre.length (a :: suf) = pre.length :: hitsL (c :: cs) (pre.length + 1) suf := by simp only [hitsL, hp, if_true]
      by_cases hs : st.1.size < limit
      · rw [if_pos ⟨⟨⟨hs, hfree⟩, (hi.mpr hp).1⟩, (hi.mpr hp).2⟩]
        have sp : ∀ i ∈ hitsL (c :: cs) (pre ++ [a]).length suf, pre.length + (ml (c :: cs)).length <= i := fun i hi' => by
          obtain ⟨r, hr⟩ := List.isPrefixOf_iff_prefix.mp hp
          have hr' : suf = cs ++ r := by
            have := congrArg List.tail hr
            simpa using this.symm
          rw [el, hr', hits_pass cs r _ hc] at hi'
          have := hits_ge _ _ _ _ hi'
          rw [ml_len]; simp; omega
        have ih := occ_run hc limit L suf (pre ++ [a]) (st.1.push pre.length, pre.length + (ml (c :: cs)).length) e' sp
        rw [el] at ih
        have ih2 := ih
        unfold occBody at ih2
        show (forIn (List.range' (pre.length + 1) (suf.length + 1)) (st.1.push pre.length, pre.length + (ml (c :: cs)).length) (occBody (ml L) (ml (c :: cs)) L.length limit)).run.fst.toList = _
        rw [ih, hh]
        have hk : limit - st.1.size = (limit - (st.1.push pre.length).size) + 1 := by simp; omega
        rw [hk, List.take_succ_cons]
        simp
      · rw [if_neg fun z => hs z.1.1.1]
        have ih := occ_run hc limit L suf (pre ++ [a]) st e' (fun i hi' => by
          rw [el] at hi'
          exact h i (by rw [hh]; exact List.mem_cons_of_mem _ hi'))
        rw [el] at ih
        show (forIn (List.range' (pre.length + 1) (suf.length + 1)) (st.1, st.2) (occBody (ml L) (ml (c :: cs)) L.length limit)).run.fst.toList = _
        rw [ih]
        have hk : limit - st.1.size = 0 := by omega
        rw [hk]; simp
    · rw [if_neg fun z => hp (hi.mp ⟨z.1.2, z.2⟩)]
      have hh : hitsL (c :: cs) pre.length (a :: suf) = hitsL (c :: cs) (pre.length + 1) suf := by simp only [hitsL]; rw [if_neg hp]
      have ih := occ_run hc limit L suf (pre ++ [a]) st e' (fun i hi' => by
        rw [el] at hi'
        exact h i (by rw [hh]; exact hi'))
      rw [el] at ih
      show (forIn (List.range' (pre.length + 1) (suf.length + 1)) (st.1, st.2) (occBody (ml L) (ml (c :: cs)) L.length limit)).run.fst.toList = _
      rw [ih, hh]
theorem occ_hits {c : Nat} {cs : List Nat} (hc : c ∉ cs) (limit : Nat) (L : List Nat) : occurrences (ml L) (ml (c :: cs)) 0 (ml L).length limit = (hitsL (c :: cs) 0 L).take limit := by
  rw [occ_eq, ml_len, Nat.sub_zero]
  have := occ_run hc limit L L [] (#[], 0) rfl (fun i _ => Nat.zero_le i)
  simpa using this
def joinL (sep : List Nat) : List (List Nat) -> List Nat
  | [] => []
  | [p] => p
  | p :: ps => p ++ sep ++ joinL sep ps
theorem join_ml (sep : List Nat) : ∀ ps : List (List Nat), PySem.Str.join (ml sep) (ps.map ml) = ml (joinL sep ps)
  | [] => rfl
  | [p] => rfl
  | p :: q :: ps => by
    show ml p ++ ml sep ++ PySem.Str.join (ml sep) ((q :: ps).map ml) = _
    rw [join_ml sep (q :: ps)]
    show (⟨p.toArray ++ sep.toArray ++ (joinL sep (q :: ps)).toArray⟩ : PySem.Str) = ⟨(p ++ sep ++ joinL sep (q :: ps)).toArray⟩
    simp
def cutsL (w : Nat) : Nat -> List (List Nat) -> List Nat
  | _, [] => []
  | _, [_] => []
  | k, p :: ps => (k + p.length) :: cutsL w (k + p.length + w) ps
theorem hits_join {c : Nat} {cs : List Nat} (hc : c ∉ cs) : ∀ (ps : List (List Nat)) (k : Nat), (∀ p ∈ ps, c ∉ p) -> hitsL (c :: cs) k (joinL (c :: cs) ps) = cutsL (c :: cs).length k ps
  | [], k, _ => rfl
  | [p], k, h => by
    have := hits_pass (c := c) (cs := cs) p [] k (h p (by simp))
    rw [List.append_nil] at this
    show hitsL (c :: cs) k p = []
    rw [this]; rfl
  | p :: q :: ps, k, h => by
    show hitsL (c :: cs) k (p ++ (c :: cs) ++ joinL (c :: cs) (q :: ps)) = (k + p.length) :: cutsL (c :: cs).length (k + p.length + (c :: cs).length) (q :: ps)
    rw [List.append_assoc, hits_pass p _ k (h p (by simp)), hits_word hc, hits_join hc (q :: ps) _ fun r hr => h r (List.mem_cons_of_mem _ hr)]
theorem sub_ml (pre p post : List Nat) : strSub (ml (pre ++ p ++ post)) pre.length (pre.length + p.length) = ml p := by
  apply ml_eq
  rw [strSub_toList, ml_list, List.append_assoc, List.drop_left]
  simp
theorem parts_join (sep : List Nat) : ∀ (ps : List (List Nat)) (pre : List Nat), ps ≠ [] -> partsFrom (ml (pre ++ joinL sep ps)) sep.length pre.length (cutsL sep.length pre.length ps) = ps.map ml
  | [], _, h => (h rfl).elim
  | [p], pre, _ => by
    show [strSub (ml (pre ++ p)) pre.length (ml (pre ++ p)).length] = [ml p]
    have := sub_ml pre p []
    rw [List.append_nil] at this
    rw [ml_len, List.length_append, this]
  | p :: q :: ps, pre, _ => by
    show strSub (ml (pre ++ (p ++ sep ++ joinL sep (q :: ps)))) pre.length (pre.length + p.length) :: partsFrom (ml (pre ++ (p ++ sep ++ joinL sep (q :: ps)))) sep.length (pre.length + p.length + sep.length) (cutsL sep.length (pre.length + p.length + sep.length) (q :: ps)) = ml p :: (q :: ps).map ml
    have e1 : pre ++ (p ++ sep ++ joinL sep (q :: ps)) = pre ++ p ++ (sep ++ joinL sep (q :: ps)) := by simp
    have e2 : pre ++ (p ++ sep ++ joinL sep (q :: ps)) = (pre ++ p ++ sep) ++ joinL sep (q :: ps) := by simp
    have el : (pre ++ p ++ sep).length = pre.length + p.length + sep.length := by simp only [List.length_append]
    have ih := parts_join sep (q :: ps) (pre ++ p ++ sep) (by simp)
    rw [el] at ih
    rw [<- e2] at ih
    rw [ih]
    congr 1
    rw [e1]; exact sub_ml pre p _
theorem kind_low (l : List Nat) (h : ∀ c ∈ l, c < 256) : strKind (ml l) = 1 := by
  unfold PySem.Builtin.Str.strKind
  rw [if_pos]
  rw [Array.all_eq_true']
  intro c hc
  have : c ∈ l := by simpa [ml] using hc
  simpa using h c this
theorem split_join {c : Nat} {cs : List Nat} (hc : c ∉ cs) (hl : ∀ d ∈ c :: cs, d < 256) {ps : List (List Nat)} (hne : ps ≠ []) (h : ∀ p ∈ ps, c ∉ p) : Txt.split (ml (joinL (c :: cs) ps)) (ml (c :: cs)) = ps.map ml := by
  have hk : ¬ strKind (ml (joinL (c :: cs) ps)) < strKind (ml (c :: cs)) := by
    rw [kind_low _ hl]
    unfold PySem.Builtin.Str.strKind
    split
    · omega
    · split <;> omega
  have hcut : ∀ (ps : List (List Nat)) (k : Nat), (cutsL (c :: cs).length k ps).length <= (joinL (c :: cs) ps).length := fun ps => by
    induction ps with
    | nil => intro k; simp [cutsL]
    | cons p ps ih =>
      intro k
      cases ps with
      | nil => simp [cutsL]
      | cons q ps =>
        have := ih (k + p.length + (c :: cs).length)
        show _ + 1 <= (p ++ (c :: cs) ++ joinL (c :: cs) (q :: ps)).length
        simp only [List.length_append, List.length_cons] at this ⊢
        omega
  have ho : occurrences (ml (joinL (c :: cs) ps)) (ml (c :: cs)) 0 (ml (joinL (c :: cs) ps)).length ((ml (joinL (c :: cs) ps)).length + 1) = cutsL (c :: cs).length 0 ps := by
    rw [occ_hits hc, hits_join hc ps 0 h, List.take_of_length_le]
    have := hcut ps 0
    rw [ml_len]; omega
  have hpj := parts_join (c :: cs) ps [] hne
  simp only [List.nil_append, List.length_nil] at hpj
  match ps, hne with
  | [p], _ =>
    unfold Txt.split
    have ho' := ho
    split
    · rfl
    · rw [ho, if_pos (by rfl)]; rfl
  | p :: q :: ps, _ =>
    unfold Txt.split
    have h1 : ¬ (decide ((ml (joinL (c :: cs) (p :: q :: ps))).length < (ml (c :: cs)).length) || decide (strKind (ml (joinL (c :: cs) (p :: q :: ps))) < strKind (ml (c :: cs)))) = true := by
      have : ¬ (ml (joinL (c :: cs) (p :: q :: ps))).length < (ml (c :: cs)).length := by
        rw [ml_len, ml_len]
        show ¬ (p ++ (c :: cs) ++ joinL (c :: cs) (q :: ps)).length < _
        simp only [List.length_append]; omega
      simp [this, hk]
    rw [if_neg h1, ho, if_neg (by simp [cutsL]), partsBetween_eq, ml_len]
    exact hpj
theorem part_first {c : Nat} (a b : List Nat) (h : c ∉ a) : Txt.partition (ml (a ++ [c] ++ b)) (ml [c]) = (ml a, ml [c], ml b) := by
  have ho := occ_hits (c := c) (cs := []) (by simp) 1 (a ++ [c] ++ b)
  rw [List.append_assoc, hits_pass a _ 0 h, show [c] ++ b = [c] ++ b from rfl, hits_word (by simp)] at ho
  rw [<- List.append_assoc] at ho
  unfold Txt.partition
  rw [ho]
  simp only [List.take_succ_cons, List.take_zero]
  have e1 := sub_ml [] a ([c] ++ b)
  have e2 := sub_ml (a ++ [c]) b []
  simp only [List.nil_append, List.length_nil, List.append_nil] at e1 e2
  rw [<- List.append_assoc] at e1
  rw [e1]
  congr 2
  have : (ml (a ++ [c] ++ b)).length = (a ++ [c]).length + b.length := by rw [ml_len, List.length_append]
  rw [this, ml_len]
  have el : 0 + a.length + [c].length = (a ++ [c]).length := by simp
  rw [el]; exact e2
end QX
namespace QX
def dg (m : Nat) : List Nat := (Nat.toDigits 10 m).map Char.toNat
theorem dchar : ∀ d : Nat, d < 10 -> (Nat.digitChar d).toNat = 48 + d := by decide
theorem dg_small {m : Nat} (h : m < 10) : dg m = [48 + m] := by
  unfold dg
  rw [Nat.toDigits_of_lt_base h]
  simp [dchar m h]
theorem dg_big {m : Nat} (h : 10 <= m) : dg m = dg (m / 10) ++ [48 + m % 10] := by
  have hm : m % 10 < 10 := Nat.mod_lt m (by decide)
  have t : Nat.toDigits 10 (m / 10) ++ Nat.toDigits 10 (m % 10) = Nat.toDigits 10 (10 * (m / 10) + m % 10) := Nat.toDigits_append_toDigits (by decide) (by omega) hm
  rw [Nat.div_add_mod] at t
  unfold dg
  rw [<- t, List.map_append, Nat.toDigits_of_lt_base hm]
  simp [dchar _ hm]
theorem dg_dig (m : Nat) : ∀ d ∈ dg m, 48 <= d /\ d <= 57 := by
  induction m using Nat.strongRecOn with
  | _ m ih =>
    intro d hd
    by_cases h : m < 10
    · rw [dg_small h] at hd
      have := List.mem_singleton.mp hd
      omega
    · rw [dg_big (by omega)] at hd
      rcases List.mem_append.mp hd with z | z
      · exact ih (m / 10) (by omega) d z
      · have := List.mem_singleton.mp z
        omega
theorem dg_ne (m : Nat) : dg m ≠ [] := by
  by_cases h : m < 10
  · rw [dg_small h]; simp
  · rw [dg_big (by omega)]; simp
theorem dg_len : ∀ (k m : Nat), m < 10 ^ (k + 1) -> (dg m).length <= k + 1
  | 0, m, h => by rw [dg_small (by simpa using h)]; simp
  | k + 1, m, h => by
    by_cases c : m < 10
    · rw [dg_small c]; simp
    · rw [dg_big (by omega)]
      have := dg_len k (m / 10) (by rw [Nat.pow_succ] at h; omega)
      simp; omega
theorem dg_head {m : Nat} (h : (dg m).head? = some 48) : m = 0 := by
  induction m using Nat.strongRecOn with
  | _ m ih =>
    by_cases c : m < 10
    · rw [dg_small c] at h
      have : 48 + m = 48 := by simpa using h
      omega
    · rw [dg_big (by omega)] at h
      have hne := dg_ne (m / 10)
      have : (dg (m / 10)).head? = some 48 := by
        cases q : dg (m / 10) with
        | nil => exact (hne q).elim
        | cons a l => rw [q] at h; simpa using h
      have := ih (m / 10) (by omega) this
      omega
theorem dg_zero : dg 0 = [48] := by rw [dg_small (by decide)]
end QX
namespace My
open PySem PySem.Spec L2 L3 L4 Dv
open PyProof.Rows hiding St
def top (i : Nat) : Stmt := PySem.Challenge.pw_latestturn_k85_texts_told_and_read.main.body.getD i (.Pass ⟨0, 0, 0, 0⟩)
abbrev s_is_name : Stmt := top 7
abbrev s_number_in : Stmt := top 11
abbrev s_name_in : Stmt := top 12
abbrev s_parted : Stmt := top 13
abbrev s_row_text : Stmt := top 14
abbrev s_rows_text : Stmt := top 15
abbrev s_queue_text : Stmt := top 16
abbrev s_row_in : Stmt := top 17
abbrev s_rows_in : Stmt := top 18
abbrev s_ticket_in : Stmt := top 19
abbrev s_queue_in : Stmt := top 20
abbrev s_l_cell : Stmt := top 22
abbrev s_l_stir : Stmt := top 23
abbrev s_l_row : Stmt := top 24
abbrev s_l_names : Stmt := top 25
abbrev s_l_rows : Stmt := top 26
abbrev s_l_queue : Stmt := top 27
abbrev s_l_rows_text : Stmt := top 28
abbrev s_l_queue_text : Stmt := top 29
abbrev s_l_rows_right : Stmt := top 30
abbrev s_l_queue_right : Stmt := top 31
abbrev s_law : Stmt := top 32
def N_is_name : List Str := ["thing"]
def e_is_name_0 : EnvD -> Option D := (g2 (fIn false) (gr 0) (g2 fPlus (gc (.str "abcdefghijklmnopqrstuvwxyz")) (gc (.str "0123456789"))))
def g_is_name : SD := (sSeq (sIf (gOr (gNot (gt (gIs "str" (gr 0)))) (gNot (gb' (g3 fLe fLe (gc (.int 1)) (gB fLen (gCons' (gr 0) gNil)) (gc (.int 8)))))) (sRet (gc (.bl false))) sNext) (sRet (gAndV (g2 (fIn false) (g2 fItem (gr 0) (gc (.int 0))) (gc (.str "abcdefghijklmnopqrstuvwxyz"))) (gB fAll (gCons' (gFz (gComp ["sign"] [] (.name 0) tYes e_is_name_0 (gItS (gr 0)))) gNil)))))
def m_is_name : List En -> Option En := mir N_is_name (g_is_name)
def N_number_in : List Str := ["word"]
def e_number_in_0 : EnvD -> Option D := (g2 (fIn false) (gr 0) (gc (.str "0123456789")))
def g_number_in : SD := (sSeq (sIf (gOr (gNot (gb' (g3 fLe fLe (gc (.int 1)) (gB fLen (gCons' (gr 0) gNil)) (gc (.int 6))))) (gNot (gt (gB fAll (gCons' (gFz (gComp ["sign"] [] (.name 0) tYes e_number_in_0 (gItS (gr 0)))) gNil))))) sNever sNext) (sSeq (sIf (gAnd (gb' (g2 (fEq false) (g2 fItem (gr 0) (gc (.int 0))) (gc (.str "0")))) (gb' (g2 (fEq true) (gr 0) (gc (.str "0"))))) sNever sNext) (sRet (gB fIntT (gCons' (gr 0) gNil)))))
def m_number_in : List En -> Option En := mir N_number_in (g_number_in)
def N_name_in : List Str := ["word"]
def g_name_in : SD := (sSeq (sIf (gNot (gt (gCall (len? 1 m_is_name) frzO (nCons (gn 0) nNil)))) sNever sNext) (sRetV 0))
def m_name_in : List En -> Option En := mir N_name_in (g_name_in)
def N_parted : List Str := ["pieces", "sign"]
def g_parted : SD := (sRet (gIf (gt (gr 0)) (gSM fJoin (gr 1) (gCons' (gr 0) gNil)) (gc (.str "-"))))
def m_parted : List En -> Option En := mir N_parted (g_parted)
def N_row_text : List Str := ["turn", "names"]
def e_row_text_0 : EnvD -> Option D := (gJ (jStr " " (jVal (gr 0) jNil)))
def g_row_text : SD := (sRet (gSM fJoin (gc (.str "")) (gCons' (gFz (g2 fCatS (gFz (gLst (gCons' (gJ (jVal (gr 0) (jStr ":" jNil))) gNil))) (gFz (gComp ["name"] [] (.name 0) tYes e_row_text_0 (gIt (gr 1)))))) gNil)))
def m_row_text : List En -> Option En := mir N_row_text (g_row_text)
def N_rows_text : List Str := ["rows"]
def e_rows_text_0 : EnvD -> Option D := (gCall (len? 2 m_row_text) frzO (nCons (gn 0) (nCons (gn 1) nNil)))
def g_rows_text : SD := (sRet (gCall (len? 2 m_parted) frzO (nCons (gVal (gFz (gComp ["turn", "names"] [] (.tup [0, 1]) tYes e_rows_text_0 (gIt (gr 0))))) (nCons (gVal (gc (.str "; "))) nNil))))
def m_rows_text : List En -> Option En := mir N_rows_text (g_rows_text)
def N_queue_text : List Str := ["queue"]
def e_queue_text_0 : EnvD -> Option D := (gJ (jVal (gr 0) (jStr " " (jVal (gr 1) jNil))))
def g_queue_text : SD := (sRet (gCall (len? 2 m_parted) frzO (nCons (gVal (gFz (gComp ["name", "left"] [] (.tup [0, 1]) tYes e_queue_text_0 (gIt (gr 0))))) (nCons (gVal (gc (.str ", "))) nNil))))
def m_queue_text : List En -> Option En := mir N_queue_text (g_queue_text)
def N_row_in : List Str := ["text", "parts", "words"]
def e_row_in_0 : EnvD -> Option D := (gCall (len? 1 m_name_in) frzO (nCons (gn 0) nNil))
def g_row_in : SD := (sSeq (sSet 1 (gSM fPart (gr 0) (gCons' (gc (.str ":")) gNil))) (sSeq (sSet 2 (gFz (gSML fSplit (g2 fItem (gr 1) (gc (.int 2))) (gCons' (gc (.str " ")) gNil)))) (sSeq (sIf (gOr (gb' (g2 (fEq false) (g2 fItem (gr 1) (gc (.int 1))) (gc (.str "")))) (gb' (g2 (fEq true) (g2 fItem (gr 2) (gc (.int 0))) (gc (.str ""))))) sNever sNext) (sRetT (gTupT (tCn (gLf (gCall (len? 1 m_number_in) frzO (nCons (gVal (g2 fItem (gr 1) (gc (.int 0)))) nNil))) (tCn (gLs (gComp ["word"] [] (.name 0) tYes e_row_in_0 (gIt (gFz (gSl (gr 2) (gSome (gc (.int 1))) gNone))))) tNl)))))))
def m_row_in : List En -> Option En := mir N_row_in (g_row_in)
def N_rows_in : List Str := ["text"]
def g_rows_in : SD := (sSeq (sIf (gb' (g2 (fEq false) (gr 0) (gc (.str "-")))) (sRetT (gLs (gLst gNil))) sNext) (sRetT (gCompT ["piece"] [] (.name 0) tYes (gCall (len? 1 m_row_in) treO (nCons (gn 0) nNil)) (gIt (gFz (gSML fSplit (gr 0) (gCons' (gc (.str "; ")) gNil)))))))
def m_rows_in : List En -> Option En := mir N_rows_in (g_rows_in)
def N_ticket_in : List Str := ["text", "parts"]
def g_ticket_in : SD := (sSeq (sSet 1 (gSM fPart (gr 0) (gCons' (gc (.str " ")) gNil))) (sRet (gTup' (gCons' (gCall (len? 1 m_name_in) frzO (nCons (gVal (g2 fItem (gr 1) (gc (.int 0)))) nNil)) (gCons' (gCall (len? 1 m_number_in) frzO (nCons (gVal (g2 fItem (gr 1) (gc (.int 2)))) nNil)) gNil)))))
def m_ticket_in : List En -> Option En := mir N_ticket_in (g_ticket_in)
def N_queue_in : List Str := ["text"]
def e_queue_in_0 : EnvD -> Option D := (gCall (len? 1 m_ticket_in) frzO (nCons (gn 0) nNil))
def g_queue_in : SD := (sSeq (sIf (gb' (g2 (fEq false) (gr 0) (gc (.str "-")))) (sRetA (gLst gNil)) sNext) (sRetA (gComp ["piece"] [] (.name 0) tYes e_queue_in_0 (gIt (gFz (gSML fSplit (gr 0) (gCons' (gc (.str ", ")) gNil)))))))
def m_queue_in : List En -> Option En := mir N_queue_in (g_queue_in)
def N_l_cell : List Str := ["_law_script", "_law_k"]
def g_l_cell : SD := (sSeq (sIf (gb' (g2 fLt (gr 1) (gB fLen (gCons' (gr 0) gNil)))) (sRet (g2 fItem (gr 0) (gr 1))) sNext) (sRet (gc (.int 0))))
def m_l_cell : List En -> Option En := mir N_l_cell (g_l_cell)
def N_l_stir : List Str := ["_law_cell_here", "_law_k", "_law_number"]
def g_l_stir : SD := (sSeq (sSet 2 (g2 fMod (g2 fPlus (g2 fPlus (g2 fMul (g2 fMod (gr 0) (gc (.int 2147483647))) (gc (.int 48271))) (g2 fMul (gc (.int 69621)) (gr 1))) (gc (.int 7))) (gc (.int 2147483647)))) (sSeq (sSet 2 (g2 fMod (g2 fMul (gr 2) (gr 2)) (gc (.int 2147483629)))) (sRet (g2 fMod (g2 fPlus (g2 fPlus (g2 fMul (gr 2) (gr 2)) (g2 fMul (gc (.int 16807)) (gr 2))) (gc (.int 11))) (gc (.int 2147483587))))))
def m_l_stir : List En -> Option En := mir N_l_stir (g_l_stir)
def N_l_row : List Str := ["_law_script", "_law_at", "_law_base", "_law_count", "_law_cell_here", "_law_found", "_law_k"]
def b_l_row_0 : SD := (sSeq (sApp 5 (g2 fMod (gr 4) (gr 2))) (sSet 4 (g2 fDiv (gr 4) (gr 2))))
def e_l_row_1 : EnvD -> Option D := (g2 fMod (g2 fDiv (gCall (len? 2 m_l_stir) frzO (nCons (gn 2) (nCons (gn 0) nNil))) (gc (.int 8))) (gr 1))
def g_l_row : SD := (sSeq (sSet 4 (gCall (len? 2 m_l_cell) frzO (nCons (gn 0) (nCons (gn 1) nNil)))) (sSeq (sIf (gb' (g2 (fEq false) (g2 fAnd (g2 fShr (gCall (len? 2 m_l_cell) frzO (nCons (gn 0) (nCons (gVal (gc (.int 0))) nNil))) (g2 fMod (gr 1) (gc (.int 8)))) (gc (.int 1))) (gc (.int 1)))) (sRetA (gComp ["_law_k"] [("_law_base", 2), ("_law_cell_here", 4)] (.name 0) tYes e_l_row_1 (gR1 (gCons' (gr 3) gNil)))) sNext) (sSeq (sSetA 5 (gLst gNil)) (sSeq (sFor (.name 6) (gR1 (gCons' (gr 3) gNil)) b_l_row_0) (sRetV 5)))))
def m_l_row : List En -> Option En := mir N_l_row (g_l_row)
def N_l_names : List Str := ["_law_cell_here", "_law_many", "_law_letters", "_law_size", "_law_at", "_law_names_here", "_law_k", "_law_name", "_law_j", "_law_step"]
def b_l_names_0 : SD := (sSeq (sSet 9 (g2 fDiv (gr 0) (g2 fPlus (gc (.int 64)) (g2 fMul (gc (.int 5)) (gr 8))))) (sSeq (sIf (gb' (g2 (fEq false) (gr 8) (gr 4))) (sSet 9 (g2 fPlus (gr 9) (g2 fMod (gr 6) (gc (.int 26))))) sNext) (sSeq (sIf (gb' (g2 (fEq false) (gr 8) (g2 fMod (g2 fPlus (gr 4) (gc (.int 1))) (gr 3)))) (sSet 9 (g2 fPlus (gr 9) (g2 fDiv (gr 6) (gc (.int 26))))) sNext) (sIf (gb' (g2 (fEq false) (gr 8) (gc (.int 0)))) (sSet 7 (g2 fPlus (gr 7) (g2 fItem (gr 2) (g2 fMod (gr 9) (gc (.int 26)))))) (sSet 7 (g2 fPlus (gr 7) (g2 fItem (g2 fPlus (gr 2) (gc (.str "0123456789"))) (g2 fMod (gr 9) (gc (.int 36))))))))))
def b_l_names_1 : SD := (sSeq (sSet 7 (gc (.str ""))) (sSeq (sFor (.name 8) (gR1 (gCons' (gr 3) gNil)) b_l_names_0) (sApp 5 (gv 7))))
def g_l_names : SD := (sSeq (sSet 2 (gc (.str "abcdefghijklmnopqrstuvwxyz"))) (sSeq (sSet 3 (g2 fPlus (gc (.int 2)) (g2 fMod (gr 0) (gc (.int 7))))) (sSeq (sIf (gb' (g2 fLe (gr 1) (gc (.int 26)))) (sSet 3 (g2 fPlus (gc (.int 1)) (g2 fMod (gr 0) (gc (.int 8))))) sNext) (sSeq (sSet 4 (g2 fMod (g2 fDiv (gr 0) (gc (.int 8))) (gr 3))) (sSeq (sSetA 5 (gLst gNil)) (sSeq (sFor (.name 6) (gR1 (gCons' (gr 1) gNil)) b_l_names_1) (sRetV 5)))))))
def m_l_names : List En -> Option En := mir N_l_names (g_l_names)
def N_l_rows : List Str := ["_law_script", "_law_names_here", "_law_rows_here", "_law_turns", "_law_picks", "_law_turn", "_law_pick", "_law_some", "_law_k"]
def b_l_rows_0 : SD := (sSeq (sSet 6 (g2 fDiv (gr 6) (gc (.int 6)))) (sApp 7 (g2 fItem (gr 1) (g2 fMod (gr 6) (gB fLen (gCons' (gr 1) gNil))))))
def b_l_rows_1 : SD := (sSeq (sSetA 7 (gLst gNil)) (sSeq (sFor (.name 8) (gR1 (gCons' (g2 fMod (gr 6) (gc (.int 6))) gNil)) b_l_rows_0) (sSeq (sIf (gb' (g2 (fEq false) (g2 fMod (gr 5) (gc (.int 3))) (gc (.int 0)))) (sSet 5 (g2 fMod (g2 fDiv (gr 5) (gc (.int 3))) (gc (.int 40)))) sNext) (sFrz 7 (sApp 2 (gTup' (gCons' (gv 5) (gCons' (gv 7) gNil))))))))
def g_l_rows : SD := (sSeq (sSetA 2 (gLst gNil)) (sSeq (sSet 3 (gFz (gCall (len? 4 m_l_row) accO (nCons (gn 0) (nCons (gVal (gc (.int 3))) (nCons (gVal (g2 fPow (gc (.int 10)) (gc (.int 6)))) (nCons (gVal (g2 fMod (gCall (len? 2 m_l_cell) frzO (nCons (gn 0) (nCons (gVal (gc (.int 4))) nNil))) (gc (.int 61)))) nNil))))))) (sSeq (sSet 4 (gFz (gCall (len? 4 m_l_row) accO (nCons (gn 0) (nCons (gVal (gc (.int 5))) (nCons (gVal (g2 fPow (gc (.int 6)) (gc (.int 6)))) (nCons (gVal (gB fLen (gCons' (gr 3) gNil))) nNil))))))) (sSeq (sFor (.tup [5, 6]) (gZip (gCons' (gf 3) (gCons' (gf 4) gNil))) b_l_rows_1) (sRetV 2)))))
def m_l_rows : List En -> Option En := mir N_l_rows (g_l_rows)
def N_l_queue : List Str := ["_law_script", "_law_names_here", "_law_queue_here", "_law_step"]
def b_l_queue_0 : SD := (sApp 2 (gTup' (gCons' (g2 fItem (gr 1) (g2 fMod (gr 3) (gB fLen (gCons' (gr 1) gNil)))) (gCons' (g2 fDiv (gr 3) (gc (.int 6))) gNil))))
def g_l_queue : SD := (sSeq (sSetA 2 (gLst gNil)) (sSeq (sFor (.name 3) (gIt (gFz (gCall (len? 4 m_l_row) accO (nCons (gn 0) (nCons (gVal (gc (.int 6))) (nCons (gVal (g2 fMul (gc (.int 6)) (g2 fPow (gc (.int 10)) (gc (.int 6))))) (nCons (gVal (g2 fMod (gCall (len? 2 m_l_cell) frzO (nCons (gn 0) (nCons (gVal (gc (.int 7))) nNil))) (gc (.int 61)))) nNil))))))) b_l_queue_0) (sRetV 2)))
def m_l_queue : List En -> Option En := mir N_l_queue (g_l_queue)
def N_l_rows_text : List Str := ["_law_rows_here", "_law_texts", "_law_turn", "_law_names_here", "_law_text", "_law_name"]
def b_l_rows_text_0 : SD := (sSet 4 (g2 fPlus (g2 fPlus (gr 4) (gc (.str " "))) (gr 5)))
def b_l_rows_text_1 : SD := (sSeq (sSet 4 (g2 fPlus (gB fStr (gCons' (gr 2) gNil)) (gc (.str ":")))) (sSeq (sFor (.name 5) (gIt (gf 3)) b_l_rows_text_0) (sApp 1 (gv 4))))
def g_l_rows_text : SD := (sSeq (sSetA 1 (gLst gNil)) (sSeq (sFor (.tup [2, 3]) (gIt (gf 0)) b_l_rows_text_1) (sSeq (sIf (gb' (g2 (fEq false) (gr 1) (gFz (gLst gNil)))) (sRet (gc (.str "-"))) sNext) (sRet (gSM fJoin (gc (.str "; ")) (gCons' (gr 1) gNil))))))
def m_l_rows_text : List En -> Option En := mir N_l_rows_text (g_l_rows_text)
def N_l_queue_text : List Str := ["_law_queue_here", "_law_texts"]
def e_l_queue_text_0 : EnvD -> Option D := (g2 fPlus (g2 fPlus (gr 0) (gc (.str " "))) (gB fStr (gCons' (gr 1) gNil)))
def g_l_queue_text : SD := (sSeq (sSet 1 (gFz (gComp ["_law_name", "_law_left"] [] (.tup [0, 1]) tYes e_l_queue_text_0 (gIt (gr 0))))) (sSeq (sIf (gb' (g2 (fEq false) (gr 1) (gFz (gLst gNil)))) (sRet (gc (.str "-"))) sNext) (sRet (gSM fJoin (gc (.str ", ")) (gCons' (gr 1) gNil)))))
def m_l_queue_text : List En -> Option En := mir N_l_queue_text (g_l_queue_text)
def N_l_rows_right : List Str := ["_law_rows_here", "_law_handed", "_law_due", "_law_found", "_law_row_here"]
def e_l_rows_right_0 : EnvD -> Option D := (gTup' (gCons' (gv 0) (gCons' (gFz (gB fList (gCons' (gr 1) gNil))) gNil)))
def g_l_rows_right : SD := (sSeq (sSet 1 (gFz (gComp ["_law_turn", "_law_names_here"] [] (.tup [0, 1]) tYes e_l_rows_right_0 (gIt (gr 0))))) (sSeq (sSet 2 (gCall (len? 1 m_l_rows_text) frzO (nCons (gn 0) nNil))) (sSeq (sIf (gOr (gb' (g2 (fEq true) (gCall (len? 1 m_rows_text) frzO (nCons (gn 1) nNil)) (gr 2))) (gb' (g2 (fEq true) (gr 1) (gr 0)))) (sRet (gc (.bl false))) sNext) (sSeq (sSetT 3 (gCall (len? 1 m_rows_in) treO (nCons (gn 2) nNil))) (sSeq (sIf (gOr (gNot (gt (gIs "list" (gh 3)))) (gb' (g2 (fEq true) (gh 3) (gr 0)))) (sRet (gc (.bl false))) sNext) (sSeq (sAllTt 3 4 1 (gOr (gNot (gt (gIs "tuple" (gh 4)))) (gOr (gt (gIs "bool" (g2 fItem (gh 4) (gc (.int 0))))) (gNot (gt (gIs "list" (g2 fItem (gh 4) (gc (.int 1)))))))) mAppend [.str "a"]) (sRet (g2 (fEq false) (gCall (len? 1 m_rows_in) frzO (nCons (gn 2) nNil)) (gr 0)))))))))
def m_l_rows_right : List En -> Option En := mir N_l_rows_right (g_l_rows_right)
def N_l_queue_right : List Str := ["_law_queue_here", "_law_handed", "_law_due", "_law_found"]
def e_l_queue_right_0 : EnvD -> Option D := (gv 0)
def g_l_queue_right : SD := (sSeq (sSet 1 (gFz (gB fList (gCons' (gr 0) gNil)))) (sSeq (sSet 2 (gCall (len? 1 m_l_queue_text) frzO (nCons (gn 0) nNil))) (sSeq (sIf (gOr (gb' (g2 (fEq true) (gCall (len? 1 m_queue_text) frzO (nCons (gn 1) nNil)) (gr 2))) (gb' (g2 (fEq true) (gr 1) (gr 0)))) (sRet (gc (.bl false))) sNext) (sSeq (sSetA 3 (gCall (len? 1 m_queue_in) accO (nCons (gn 2) nNil))) (sSeq (sIf (gOr (gNot (gt (gIs "list" (gr 3)))) (gb' (g2 (fEq true) (gr 3) (gr 0)))) (sRet (gc (.bl false))) sNext) (sSeq (sIf (gb' (g2 fGt (gB fLen (gCons' (gFz (gComp ["_law_row_here"] [] (.name 0) (gOr (gNot (gt (gIs "tuple" (gr 0)))) (gt (gIs "bool" (g2 fItem (gr 0) (gc (.int 1)))))) e_l_queue_right_0 (gIt (gr 3)))) gNil)) (gc (.int 0)))) (sRet (gc (.bl false))) sNext) (sSeq (sApp 3 (gTup' (gCons' (gc (.str "a")) (gCons' (gc (.int 1)) gNil)))) (sRet (g2 (fEq false) (gFz (gCall (len? 1 m_queue_in) accO (nCons (gn 2) nNil))) (gr 0))))))))))
def m_l_queue_right : List En -> Option En := mir N_l_queue_right (g_l_queue_right)
def N_law : List Str := ["_law_script", "_law_names_here", "_law_rows_here", "_law_queue_here", "_law_some", "_law_number", "_law_found"]
def e_law_0 : EnvD -> Option D := (gv 0)
def e_law_1 : EnvD -> Option D := (gv 1)
def b_law_2 : SD := (sSeq (sSet 6 (gCall (len? 1 m_number_in) frzO (nCons (gVal (gB fStr (gCons' (gr 5) gNil))) nNil))) (sIf (gOr (gNot (gt (gIs "int" (gr 6)))) (gOr (gt (gIs "bool" (gr 6))) (gb' (g2 (fEq true) (gr 6) (gr 5))))) (sRet (gc (.bl false))) sNext))
def b_law_3 : SD := (sIf (gNot (gt (gCall (len? 1 m_l_queue_right) frzO (nCons (gn 4) nNil)))) (sRet (gc (.bl false))) sNext)
def b_law_4 : SD := (sIf (gNot (gt (gCall (len? 1 m_l_rows_right) frzO (nCons (gn 4) nNil)))) (sRet (gc (.bl false))) sNext)
def g_law : SD := (sSeq (sSet 1 (gFz (gCall (len? 2 m_l_names) accO (nCons (gVal (gCall (len? 2 m_l_cell) frzO (nCons (gn 0) (nCons (gVal (gc (.int 1))) nNil)))) (nCons (gVal (g2 fPlus (gc (.int 1)) (g2 fMod (gCall (len? 2 m_l_cell) frzO (nCons (gn 0) (nCons (gVal (gc (.int 2))) nNil))) (gc (.int 6))))) nNil))))) (sSeq (sSet 2 (gFz (gCall (len? 2 m_l_rows) accO (nCons (gn 0) (nCons (gn 1) nNil))))) (sSeq (sSet 3 (gFz (gCall (len? 2 m_l_queue) accO (nCons (gn 0) (nCons (gn 1) nNil))))) (sSeq (sFor (.name 4) (gIt (gFz (gLst (gCons' (gv 2) (gCons' (gFz (gSl (gr 2) gNone (gSome (gc (.int 1))))) (gCons' (gFz (gSl (gr 2) (gSome (gNeg (gc (.int 1)))) gNone)) (gCons' (gFz (gLst gNil)) (gCons' (gFz (gLst (gCons' (gTup' (gCons' (gc (.int 999999)) (gCons' (gFz (gLst gNil)) gNil))) gNil))) gNil)))))))) b_law_4) (sSeq (sFor (.name 4) (gIt (gFz (gLst (gCons' (gv 3) (gCons' (gFz (gSl (gr 3) gNone (gSome (gc (.int 1))))) (gCons' (gFz (gSl (gr 3) (gSome (gNeg (gc (.int 1)))) gNone)) (gCons' (gFz (gLst gNil)) (gCons' (gFz (gLst (gCons' (gTup' (gCons' (g2 fItem (gr 1) (gc (.int 0))) (gCons' (gc (.int 0)) gNil))) gNil))) gNil)))))))) b_law_3) (sSeq (sFor (.name 5) (gIt (gFz (g2 fCatS (gFz (g2 fCatS (gFz (gComp ["_law_turn", "_law_some"] [] (.tup [0, 1]) tYes e_law_0 (gIt (gr 2)))) (gFz (gComp ["_law_name", "_law_left"] [] (.tup [0, 1]) tYes e_law_1 (gIt (gr 3)))))) (gFz (gLst (gCons' (gc (.int 0)) (gCons' (gc (.int 999999)) gNil))))))) b_law_2) (sRet (gc (.bl true)))))))))
def m_law : List En -> Option En := mir N_law (g_law)
structure Txt (K : PySem.W.Frag) (mg : Str -> Option Value) (C : Addr) : Prop where
  b_all : mg "all" = none
  b_bool : mg "bool" = none
  b_int : mg "int" = none
  b_isinstance : mg "isinstance" = none
  b_len : mg "len" = none
  b_list : mg "list" = none
  b_range : mg "range" = none
  b_str : mg "str" = none
  b_tuple : mg "tuple" = none
  b_zip : mg "zip" = none
  c_FIGURES' : ∃ t, mg "FIGURES" = some (.str "0123456789" t)
  c_LETTERS' : ∃ t, mg "LETTERS" = some (.str "abcdefghijklmnopqrstuvwxyz" t)
  c_MOST_FIGURES' : ∃ t, mg "MOST_FIGURES" = some (.int 6 t)
  c_MOST_SIGNS' : ∃ t, mg "MOST_SIGNS" = some (.int 8 t)
  c_NOTHING' : ∃ t, mg "NOTHING" = some (.str "-" t)
section
variable {P : Program} {w : World} {K : PySem.W.Frag} {mg : Str -> Option Value} {base : Heap} {C : Addr}
theorem sc_is_name : FnScope ["thing"] ["thing"] (defScope s_is_name) := ⟨rfl, rfl, rfl, by decide +kernel, rfl, by decide +kernel, by decide +kernel⟩
theorem ok_is_name {f : Addr} {fd : FuncData} (T : Txt K mg C) (F : Fun K "is_name" "is_name" s_is_name f fd) : FnOk P w K mg base CX0 1 f fd ["thing"] (pSp ⟨K, w⟩ 1 (len? 1 (mir ["thing"] g_is_name))) := by
  obtain ⟨tok_FIGURES, t_FIGURES⟩ := T.c_FIGURES'
  obtain ⟨tok_LETTERS, t_LETTERS⟩ := T.c_LETTERS'
  obtain ⟨tok_MOST_SIGNS, t_MOST_SIGNS⟩ := T.c_MOST_SIGNS'
  have sc := sc_is_name
  refine fn_pure (k := 0) F sc_is_name (fun cdv A outer s H E B hr => ?_)
  exact (dss_cons (ds_if (dt_w (dw_or (dt_not (dt_truth (DE.read (de_isinst (kitT "str" (by decide)) (by rfl) T.b_isinstance (by rfl) T.b_str (by decide +kernel) (dr_var 0 (pv 0)))) (by intro _; rfl))) (dw_or1 (dt_not (dt_chain op_le op_le ok_le ok_le de_int.read (DE.read (de_len (by rfl) T.b_len (drs_cons (dr_var 0 (pv 0)) drs_nil))) (DE.read (de_glob (v := .int 8) (by rfl) t_MOST_SIGNS (by exact ⟨_, rfl⟩) (by intro _; rfl)))))))) (dss_one (ds_ret de_bl)) dss_nil) (dss_one (ds_ret (de_andv (de_cmp op_inA ok_in (DE.read (de_item2 (dr_var 0 (pv 0)) de_int.read (by intro _ _; rfl))) (DE.read (de_glob (v := .str "abcdefghijklmnopqrstuvwxyz") (by rfl) t_LETTERS (by exact ⟨_, rfl⟩) (by intro _; rfl))) (by rfl)) (de_one (de_all (by rfl) (by rfl) T.b_all (drs_cons (DA.read (da_comp (own := ["sign"]) (cap := []) (t := (.name 0)) (by rfl) (comp_scope (sc := (defScope s_is_name).names) (N := ["thing"]) (by rfl) (by rfl) (by rfl) (by decide +kernel)) (di_str (dr_var 0 (pv 0))) (by decide) (fun B' C' s₀ H₀ fp pn => ⟨(pg_name (i := 0) (show List.Nodup (["sign"] : List Str) from by decide +kernel) (by rfl) (by first|exact .inl rfl|exact .inr rfl)), difs_nil, (de_cmp op_inA ok_in (dr_var 0 (pv 0)) (DE.read (de_plus (DE.read (de_glob (v := .str "abcdefghijklmnopqrstuvwxyz") (by rfl) t_LETTERS (by exact ⟨_, rfl⟩) (by intro _; rfl))) (DE.read (de_glob (v := .str "0123456789") (by rfl) t_FIGURES (by exact ⟨_, rfl⟩) (by intro _; rfl))))) (by rfl))⟩))) drs_nil)))))))
theorem sc_number_in : FnScope ["word"] ["word"] (defScope s_number_in) := ⟨rfl, rfl, rfl, by decide +kernel, rfl, by decide +kernel, by decide +kernel⟩
theorem ok_number_in {f : Addr} {fd : FuncData} (T : Txt K mg C) (F : Fun K "number_in" "number_in" s_number_in f fd) : FnOk P w K mg base CX0 1 f fd ["word"] (pSp ⟨K, w⟩ 1 (len? 1 (mir ["word"] g_number_in))) := by
  obtain ⟨tok_FIGURES, t_FIGURES⟩ := T.c_FIGURES'
  obtain ⟨tok_MOST_FIGURES, t_MOST_FIGURES⟩ := T.c_MOST_FIGURES'
  have sc := sc_number_in
  refine fn_pure (k := 0) F sc_number_in (fun cdv A outer s H E B hr => ?_)
  exact (dss_cons (ds_if (dt_w (dw_or (dt_not (dt_chain op_le op_le ok_le ok_le de_int.read (DE.read (de_len (by rfl) T.b_len (drs_cons (dr_var 0 (pv 0)) drs_nil))) (DE.read (de_glob (v := .int 6) (by rfl) t_MOST_FIGURES (by exact ⟨_, rfl⟩) (by intro _; rfl))))) (dw_or1 (dt_not (dt_truth (DE.read (de_all (by rfl) (by rfl) T.b_all (drs_cons (DA.read (da_comp (own := ["sign"]) (cap := []) (t := (.name 0)) (by rfl) (comp_scope (sc := (defScope s_number_in).names) (N := ["word"]) (by rfl) (by rfl) (by rfl) (by decide +kernel)) (di_str (dr_var 0 (pv 0))) (by decide) (fun B' C' s₀ H₀ fp pn => ⟨(pg_name (i := 0) (show List.Nodup (["sign"] : List Str) from by decide +kernel) (by rfl) (by first|exact .inl rfl|exact .inr rfl)), difs_nil, (de_cmp op_inA ok_in (dr_var 0 (pv 0)) (DE.read (de_glob (v := .str "0123456789") (by rfl) t_FIGURES (by exact ⟨_, rfl⟩) (by intro _; rfl))) (by rfl))⟩))) drs_nil))) (by intro _; rfl)))))) (dss_one ds_never) dss_nil) (dss_cons (ds_if (dt_w (dw_and (dt_cmp (op_eqD hr.units) ok_eq (DE.read (de_item2 (dr_var 0 (pv 0)) de_int.read (by intro _ _; rfl))) (DE.read de_str) (nomark _)) (dw_and1 (dt_cmp (op_neD hr.units) ok_eq (dr_var 0 (pv 0)) (DE.read de_str) (nomark _))))) (dss_one ds_never) dss_nil) (dss_one (ds_ret (de_intT (by rfl) T.b_int (drs_cons (dr_var 0 (pv 0)) drs_nil))))))
theorem sc_name_in : FnScope ["word"] ["word"] (defScope s_name_in) := ⟨rfl, rfl, rfl, by decide +kernel, rfl, by decide +kernel, by decide +kernel⟩
theorem ok_name_in {f : Addr} {fd : FuncData} (T : Txt K mg C) (F : Fun K "name_in" "name_in" s_name_in f fd) (h_is_name : Fx P w K mg base "is_name" 1 1 m_is_name) : FnOk P w K mg base CX0 2 f fd ["word"] (pSp ⟨K, w⟩ 1 (len? 1 (mir ["word"] g_name_in))) := by
  have sc := sc_name_in
  refine fn_pure (k := 1) F sc_name_in (fun cdv A outer s H E B hr => ?_)
  exact (dss_cons (ds_if (dt_not (dt_truth (DE.read (de_callF h_is_name (hr.mono (by decide)) (by rfl) (dns_cons (dn_var 0 (pv 0)) dns_nil))) (by intro _; rfl))) (dss_one ds_never) dss_nil) (dss_one (ds_retV 0 (pv 0))))
theorem sc_parted : FnScope ["pieces", "sign"] ["pieces", "sign"] (defScope s_parted) := ⟨rfl, rfl, rfl, by decide +kernel, rfl, by decide +kernel, by decide +kernel⟩
theorem ok_parted {f : Addr} {fd : FuncData} (T : Txt K mg C) (F : Fun K "parted" "parted" s_parted f fd) : FnOk P w K mg base CX0 1 f fd ["pieces", "sign"] (pSp ⟨K, w⟩ 2 (len? 2 (mir ["pieces", "sign"] g_parted))) := by
  obtain ⟨tok_NOTHING, t_NOTHING⟩ := T.c_NOTHING'
  have sc := sc_parted
  refine fn_pure (k := 0) F sc_parted (fun cdv A outer s H E B hr => ?_)
  exact (dss_one (ds_ret (de_if (dt_truth (dr_var 0 (pv 0)) (by intro _; rfl)) (de_join (dr_var 1 (pv 1)) (drs_cons (dr_var 0 (pv 0)) drs_nil)) (de_glob (v := .str "-") (by rfl) t_NOTHING (by exact ⟨_, rfl⟩) (by intro _; rfl)))))
theorem sc_row_text : FnScope ["turn", "names"] ["turn", "names"] (defScope s_row_text) := ⟨rfl, rfl, rfl, by decide +kernel, rfl, by decide +kernel, by decide +kernel⟩
theorem ok_row_text {f : Addr} {fd : FuncData} (T : Txt K mg C) (F : Fun K "row_text" "row_text" s_row_text f fd) : FnOk P w K mg base CX0 1 f fd ["turn", "names"] (pSp ⟨K, w⟩ 2 (len? 2 (mir ["turn", "names"] g_row_text))) := by
  have sc := sc_row_text
  refine fn_pure (k := 0) F sc_row_text (fun cdv A outer s H E B hr => ?_)
  exact (dss_one (ds_ret (de_join (DE.read de_str) (drs_cons (DA.read (da_catS (DA.read (da_lst (das_cons (de_joined (dj_val (dr_var 0 (pv 0)) (dj_str dj_nil))) das_nil))) (DA.read (da_comp (own := ["name"]) (cap := []) (t := (.name 0)) (by rfl) (comp_scope (sc := (defScope s_row_text).names) (N := ["turn", "names"]) (by rfl) (by rfl) (by rfl) (by decide +kernel)) (di_list hb1 (DR.cur (dr_var 1 (pv 1)))) (by decide) (fun B' C' s₀ H₀ fp pn => ⟨(pg_name (i := 0) (show List.Nodup (["name"] : List Str) from by decide +kernel) (by rfl) (by first|exact .inl rfl|exact .inr rfl)), difs_nil, (de_joined (dj_str (dj_val (dr_var 0 (pv 0)) dj_nil)))⟩))))) drs_nil))))
theorem sc_rows_text : FnScope ["rows"] ["rows"] (defScope s_rows_text) := ⟨rfl, rfl, rfl, by decide +kernel, rfl, by decide +kernel, by decide +kernel⟩
theorem ok_rows_text {f : Addr} {fd : FuncData} (T : Txt K mg C) (F : Fun K "rows_text" "rows_text" s_rows_text f fd) (h_parted : Fx P w K mg base "parted" 1 2 m_parted) (h_row_text : Fx P w K mg base "row_text" 1 2 m_row_text) : FnOk P w K mg base CX0 2 f fd ["rows"] (pSp ⟨K, w⟩ 1 (len? 1 (mir ["rows"] g_rows_text))) := by
  have sc := sc_rows_text
  refine fn_pure (k := 1) F sc_rows_text (fun cdv A outer s H E B hr => ?_)
  exact (dss_one (ds_ret (de_callF h_parted (hr.mono (by decide)) (by rfl) (dns_cons (dn_val (DA.frz (da_comp (own := ["turn", "names"]) (cap := []) (t := (.tup [0, 1])) (by rfl) (comp_scope (sc := (defScope s_rows_text).names) (N := ["rows"]) (by rfl) (by rfl) (by rfl) (by decide +kernel)) (di_list hb1 (DR.cur (dr_var 0 (pv 0)))) (by decide) (fun B' C' s₀ H₀ fp pn => ⟨(pg_tup (by rfl) (pgs_cons (pg_name (i := 0) (show List.Nodup (["turn", "names"] : List Str) from by decide +kernel) (by rfl) (by first|exact .inl rfl|exact .inr rfl)) (pgs_cons (pg_name (i := 1) (show List.Nodup (["turn", "names"] : List Str) from by decide +kernel) (by rfl) (by first|exact .inl rfl|exact .inr rfl)) pgs_nil))), difs_nil, (de_callF h_row_text (hr.mono (by decide)) (by rfl) (dns_cons (dn_var 0 (pv 0)) (dns_cons (dn_var 1 (pv 1)) dns_nil)))⟩)))) (dns_cons (dn_val de_str) dns_nil)))))
theorem sc_queue_text : FnScope ["queue"] ["queue"] (defScope s_queue_text) := ⟨rfl, rfl, rfl, by decide +kernel, rfl, by decide +kernel, by decide +kernel⟩
theorem ok_queue_text {f : Addr} {fd : FuncData} (T : Txt K mg C) (F : Fun K "queue_text" "queue_text" s_queue_text f fd) (h_parted : Fx P w K mg base "parted" 1 2 m_parted) : FnOk P w K mg base CX0 2 f fd ["queue"] (pSp ⟨K, w⟩ 1 (len? 1 (mir ["queue"] g_queue_text))) := by
  have sc := sc_queue_text
  refine fn_pure (k := 1) F sc_queue_text (fun cdv A outer s H E B hr => ?_)
  exact (dss_one (ds_ret (de_callF h_parted (hr.mono (by decide)) (by rfl) (dns_cons (dn_val (DA.frz (da_comp (own := ["name", "left"]) (cap := []) (t := (.tup [0, 1])) (by rfl) (comp_scope (sc := (defScope s_queue_text).names) (N := ["queue"]) (by rfl) (by rfl) (by rfl) (by decide +kernel)) (di_list hb1 (DR.cur (dr_var 0 (pv 0)))) (by decide) (fun B' C' s₀ H₀ fp pn => ⟨(pg_tup (by rfl) (pgs_cons (pg_name (i := 0) (show List.Nodup (["name", "left"] : List Str) from by decide +kernel) (by rfl) (by first|exact .inl rfl|exact .inr rfl)) (pgs_cons (pg_name (i := 1) (show List.Nodup (["name", "left"] : List Str) from by decide +kernel) (by rfl) (by first|exact .inl rfl|exact .inr rfl)) pgs_nil))), difs_nil, (de_joined (dj_val (dr_var 0 (pv 0)) (dj_str (dj_val (dr_var 1 (pv 1)) dj_nil))))⟩)))) (dns_cons (dn_val de_str) dns_nil)))))
theorem sc_row_in : FnScope ["text", "parts", "words"] ["text"] (defScope s_row_in) := ⟨rfl, rfl, rfl, by decide +kernel, rfl, by decide +kernel, by decide +kernel⟩
theorem ok_row_in {f : Addr} {fd : FuncData} (T : Txt K mg C) (F : Fun K "row_in" "row_in" s_row_in f fd) (h_name_in : Fx P w K mg base "name_in" 2 1 m_name_in) (h_number_in : Fx P w K mg base "number_in" 1 1 m_number_in) : FnOk P w K mg base CX0 3 f fd ["text"] (pSp ⟨K, w⟩ 1 (len? 1 (mir ["text", "parts", "words"] g_row_in))) := by
  have sc := sc_row_in
  refine fn_pure (k := 2) F sc_row_in (fun cdv A outer s H E B hr => ?_)
  exact (dss_cons (ds_set (i := 1) sc.nd (by rfl) (by first|exact .inl rfl|exact .inr rfl) (de_part (dr_var 0 (pv 0)) (drs_cons (DE.read de_str) drs_nil))) (dss_cons (ds_set (i := 2) sc.nd (by rfl) (by first|exact .inl rfl|exact .inr rfl) (DA.frz (da_split (DE.read (de_item2 (dr_var 1 (pv 1)) de_int.read (by intro _ _; rfl))) (drs_cons (DE.read de_str) drs_nil)))) (dss_cons (ds_if (dt_w (dw_or (dt_cmp (op_eqD hr.units) ok_eq (DE.read (de_item2 (dr_var 1 (pv 1)) de_int.read (by intro _ _; rfl))) (DE.read de_str) (nomark _)) (dw_or1 (dt_cmp (op_neD hr.units) ok_eq (DE.read (de_item2 (dr_var 2 (pv 2)) de_int.read (by intro _ _; rfl))) (DE.read de_str) (nomark _))))) (dss_one ds_never) dss_nil) (dss_one (ds_retT (dtr_tup (dtrs_cons (DE.tree (de_callF h_number_in (hr.mono (by decide)) (by rfl) (dns_cons (dn_val (de_item2 (dr_var 1 (pv 1)) de_int.read (by intro _ _; rfl))) dns_nil))) (dtrs_cons (DA.tree (da_comp (own := ["word"]) (cap := []) (t := (.name 0)) (by rfl) (comp_scope (sc := (defScope s_row_in).names) (N := ["text", "parts", "words"]) (by rfl) (by rfl) (by rfl) (by decide +kernel)) (di_list hb1 (DR.cur (DA.read (da_slice (dr_var 2 (pv 2)) (do_some de_int.read) do_none)))) (by decide) (fun B' C' s₀ H₀ fp pn => ⟨(pg_name (i := 0) (show List.Nodup (["word"] : List Str) from by decide +kernel) (by rfl) (by first|exact .inl rfl|exact .inr rfl)), difs_nil, (de_callF h_name_in (hr.mono (by decide)) (by rfl) (dns_cons (dn_var 0 (pv 0)) dns_nil))⟩))) dtrs_nil))))))))
theorem sc_rows_in : FnScope ["text"] ["text"] (defScope s_rows_in) := ⟨rfl, rfl, rfl, by decide +kernel, rfl, by decide +kernel, by decide +kernel⟩
theorem ok_rows_in {f : Addr} {fd : FuncData} (T : Txt K mg C) (F : Fun K "rows_in" "rows_in" s_rows_in f fd) (h_row_in : Fx P w K mg base "row_in" 3 1 m_row_in) : FnOk P w K mg base CX0 4 f fd ["text"] (pSp ⟨K, w⟩ 1 (len? 1 (mir ["text"] g_rows_in))) := by
  obtain ⟨tok_NOTHING, t_NOTHING⟩ := T.c_NOTHING'
  have sc := sc_rows_in
  refine fn_pure (k := 3) F sc_rows_in (fun cdv A outer s H E B hr => ?_)
  exact (dss_cons (ds_if (dt_cmp (op_eqD hr.units) ok_eq (dr_var 0 (pv 0)) (DE.read (de_glob (v := .str "-") (by rfl) t_NOTHING (by exact ⟨_, rfl⟩) (by intro _; rfl))) (nomark _)) (dss_one (ds_retT (DA.tree (da_lst das_nil)))) dss_nil) (dss_one (ds_retT (dtr_comp (own := ["piece"]) (cap := []) (t := (.name 0)) (by rfl) (comp_scope (sc := (defScope s_rows_in).names) (N := ["text"]) (by rfl) (by rfl) (by rfl) (by decide +kernel)) (di_list hb1 (DR.cur (DA.read (da_split (dr_var 0 (pv 0)) (drs_cons (DE.read de_str) drs_nil))))) (by decide) (fun B' C' s₀ H₀ fp pn => ⟨(pg_name (i := 0) (show List.Nodup (["piece"] : List Str) from by decide +kernel) (by rfl) (by first|exact .inl rfl|exact .inr rfl)), difs_nil, (dtr_callF h_row_in (hr.mono (by decide)) (by rfl) (dns_cons (dn_var 0 (pv 0)) dns_nil))⟩)))))
theorem sc_ticket_in : FnScope ["text", "parts"] ["text"] (defScope s_ticket_in) := ⟨rfl, rfl, rfl, by decide +kernel, rfl, by decide +kernel, by decide +kernel⟩
theorem ok_ticket_in {f : Addr} {fd : FuncData} (T : Txt K mg C) (F : Fun K "ticket_in" "ticket_in" s_ticket_in f fd) (h_number_in : Fx P w K mg base "number_in" 1 1 m_number_in) (h_name_in : Fx P w K mg base "name_in" 2 1 m_name_in) : FnOk P w K mg base CX0 3 f fd ["text"] (pSp ⟨K, w⟩ 1 (len? 1 (mir ["text", "parts"] g_ticket_in))) := by
  have sc := sc_ticket_in
  refine fn_pure (k := 2) F sc_ticket_in (fun cdv A outer s H E B hr => ?_)
  exact (dss_cons (ds_set (i := 1) sc.nd (by rfl) (by first|exact .inl rfl|exact .inr rfl) (de_part (dr_var 0 (pv 0)) (drs_cons (DE.read de_str) drs_nil))) (dss_one (ds_ret (de_tup (das_cons (de_callF h_name_in (hr.mono (by decide)) (by rfl) (dns_cons (dn_val (de_item2 (dr_var 1 (pv 1)) de_int.read (by intro _ _; rfl))) dns_nil)) (das_cons (de_callF h_number_in (hr.mono (by decide)) (by rfl) (dns_cons (dn_val (de_item2 (dr_var 1 (pv 1)) de_int.read (by intro _ _; rfl))) dns_nil)) das_nil))))))
theorem sc_queue_in : FnScope ["text"] ["text"] (defScope s_queue_in) := ⟨rfl, rfl, rfl, by decide +kernel, rfl, by decide +kernel, by decide +kernel⟩
theorem ok_queue_in {f : Addr} {fd : FuncData} (T : Txt K mg C) (F : Fun K "queue_in" "queue_in" s_queue_in f fd) (h_ticket_in : Fx P w K mg base "ticket_in" 3 1 m_ticket_in) : FnOk P w K mg base CX0 4 f fd ["text"] (pSp ⟨K, w⟩ 1 (len? 1 (mir ["text"] g_queue_in))) := by
  obtain ⟨tok_NOTHING, t_NOTHING⟩ := T.c_NOTHING'
  have sc := sc_queue_in
  refine fn_pure (k := 3) F sc_queue_in (fun cdv A outer s H E B hr => ?_)
  exact (dss_cons (ds_if (dt_cmp (op_eqD hr.units) ok_eq (dr_var 0 (pv 0)) (DE.read (de_glob (v := .str "-") (by rfl) t_NOTHING (by exact ⟨_, rfl⟩) (by intro _; rfl))) (nomark _)) (dss_one (ds_retA (da_lst das_nil))) dss_nil) (dss_one (ds_retA (da_comp (own := ["piece"]) (cap := []) (t := (.name 0)) (by rfl) (comp_scope (sc := (defScope s_queue_in).names) (N := ["text"]) (by rfl) (by rfl) (by rfl) (by decide +kernel)) (di_list hb1 (DR.cur (DA.read (da_split (dr_var 0 (pv 0)) (drs_cons (DE.read de_str) drs_nil))))) (by decide) (fun B' C' s₀ H₀ fp pn => ⟨(pg_name (i := 0) (show List.Nodup (["piece"] : List Str) from by decide +kernel) (by rfl) (by first|exact .inl rfl|exact .inr rfl)), difs_nil, (de_callF h_ticket_in (hr.mono (by decide)) (by rfl) (dns_cons (dn_var 0 (pv 0)) dns_nil))⟩)))))
theorem sc_l_cell : FnScope ["_law_script", "_law_k"] ["_law_script", "_law_k"] (defScope s_l_cell) := ⟨rfl, rfl, rfl, by decide +kernel, rfl, by decide +kernel, by decide +kernel⟩
theorem ok_l_cell {f : Addr} {fd : FuncData} (T : Txt K mg C) (F : Fun K "_law_cell" "_law_cell" s_l_cell f fd) : FnOk P w K mg base CX0 1 f fd ["_law_script", "_law_k"] (pSp ⟨K, w⟩ 2 (len? 2 (mir ["_law_script", "_law_k"] g_l_cell))) := by
  have sc := sc_l_cell
  refine fn_pure (k := 0) F sc_l_cell (fun cdv A outer s H E B hr => ?_)
  exact (dss_cons (ds_if (dt_cmp op_lt ok_lt (dr_var 1 (pv 1)) (DE.read (de_len (by rfl) T.b_len (drs_cons (dr_var 0 (pv 0)) drs_nil))) (nomark _)) (dss_one (ds_ret (de_item2 (dr_var 0 (pv 0)) (dr_var 1 (pv 1)) (by intro _ _; rfl)))) dss_nil) (dss_one (ds_ret de_int)))
theorem sc_l_stir : FnScope ["_law_cell_here", "_law_k", "_law_number"] ["_law_cell_here", "_law_k"] (defScope s_l_stir) := ⟨rfl, rfl, rfl, by decide +kernel, rfl, by decide +kernel, by decide +kernel⟩
theorem ok_l_stir {f : Addr} {fd : FuncData} (T : Txt K mg C) (F : Fun K "_law_stir" "_law_stir" s_l_stir f fd) : FnOk P w K mg base CX0 1 f fd ["_law_cell_here", "_law_k"] (pSp ⟨K, w⟩ 2 (len? 2 (mir ["_law_cell_here", "_law_k", "_law_number"] g_l_stir))) := by
  have sc := sc_l_stir
  refine fn_pure (k := 0) F sc_l_stir (fun cdv A outer s H E B hr => ?_)
  exact (dss_cons (ds_set (i := 2) sc.nd (by rfl) (by first|exact .inl rfl|exact .inr rfl) (de_mod (DE.read (de_plus (DE.read (de_plus (DE.read (de_mul (DE.read (de_mod (dr_var 0 (pv 0)) de_int.read)) de_int.read)) (DE.read (de_mul de_int.read (dr_var 1 (pv 1)))))) de_int.read)) de_int.read)) (dss_cons (ds_set (i := 2) sc.nd (by rfl) (by first|exact .inl rfl|exact .inr rfl) (de_mod (DE.read (de_mul (dr_var 2 (pv 2)) (dr_var 2 (pv 2)))) de_int.read)) (dss_one (ds_ret (de_mod (DE.read (de_plus (DE.read (de_plus (DE.read (de_mul (dr_var 2 (pv 2)) (dr_var 2 (pv 2)))) (DE.read (de_mul de_int.read (dr_var 2 (pv 2)))))) de_int.read)) de_int.read)))))
theorem sc_l_row : FnScope ["_law_script", "_law_at", "_law_base", "_law_count", "_law_cell_here", "_law_found", "_law_k"] ["_law_script", "_law_at", "_law_base", "_law_count"] (defScope s_l_row) := ⟨rfl, rfl, rfl, by decide +kernel, rfl, by decide +kernel, by decide +kernel⟩
theorem ok_l_row {f : Addr} {fd : FuncData} (T : Txt K mg C) (F : Fun K "_law_row" "_law_row" s_l_row f fd) (h_l_cell : Fx P w K mg base "_law_cell" 1 2 m_l_cell) (h_l_stir : Fx P w K mg base "_law_stir" 1 2 m_l_stir) : FnOk P w K mg base CX0 2 f fd ["_law_script", "_law_at", "_law_base", "_law_count"] (pSp ⟨K, w⟩ 4 (len? 4 (mir ["_law_script", "_law_at", "_law_base", "_law_count", "_law_cell_here", "_law_found", "_law_k"] g_l_row))) := by
  have sc := sc_l_row
  refine fn_pure (k := 1) F sc_l_row (fun cdv A outer s H E B hr => ?_)
  exact (dss_cons (ds_set (i := 4) sc.nd (by rfl) (by first|exact .inl rfl|exact .inr rfl) (de_callF h_l_cell (hr.mono (by decide)) (by rfl) (dns_cons (dn_var 0 (pv 0)) (dns_cons (dn_var 1 (pv 1)) dns_nil)))) (dss_cons (ds_if (dt_cmp (op_eqD hr.units) ok_eq (DE.read (de_and' (DE.read (de_shr (DE.read (de_callF h_l_cell (hr.mono (by decide)) (by rfl) (dns_cons (dn_var 0 (pv 0)) (dns_cons (dn_val de_int) dns_nil)))) (DE.read (de_mod (dr_var 1 (pv 1)) de_int.read)))) de_int.read)) de_int.read (nomark _)) (dss_one (ds_retA (da_comp (own := ["_law_k"]) (cap := [("_law_base", 2), ("_law_cell_here", 4)]) (t := (.name 0)) (by rfl) (comp_scope (sc := (defScope s_l_row).names) (N := ["_law_script", "_law_at", "_law_base", "_law_count", "_law_cell_here", "_law_found", "_law_k"]) (by rfl) (by rfl) (by rfl) (by decide +kernel)) (di_rng1 (by rfl) T.b_range (drs_cons (dr_var 3 (pv 3)) drs_nil)) (by decide) (fun B' C' s₀ H₀ fp pn => ⟨(pg_name (i := 0) (show List.Nodup (["_law_k", "_law_base", "_law_cell_here"] : List Str) from by decide +kernel) (by rfl) (by first|exact .inl rfl|exact .inr rfl)), difs_nil, (de_mod (DE.read (de_div (DE.read (de_callF h_l_stir (hr.mono (by decide)) (by rfl) (dns_cons (dn_var 2 (pv 2)) (dns_cons (dn_var 0 (pv 0)) dns_nil)))) de_int.read)) (dr_var 1 (pv 1)))⟩)))) dss_nil) (dss_cons (ds_setA (i := 5) sc.nd (by rfl) (by first|exact .inl rfl|exact .inr rfl) (da_lst das_nil)) (dss_cons (ds_for (t := (.name 6)) PassesOwn.never (by rfl) (di_rng1 (by rfl) T.b_range (drs_cons (dr_var 3 (pv 3)) drs_nil)) (pg_name (i := 6) sc.nd (by rfl) (by first|exact .inl rfl|exact .inr rfl)) (dss_cons (ds_app 5 (pv 5) (de_mod (dr_var 4 (pv 4)) (dr_var 2 (pv 2)))) (dss_one (ds_set (i := 4) sc.nd (by rfl) (by first|exact .inl rfl|exact .inr rfl) (de_div (dr_var 4 (pv 4)) (dr_var 2 (pv 2))))))) (dss_one (ds_retV 5 (pv 5)))))))
theorem sc_l_names : FnScope ["_law_cell_here", "_law_many", "_law_letters", "_law_size", "_law_at", "_law_names_here", "_law_k", "_law_name", "_law_j", "_law_step"] ["_law_cell_here", "_law_many"] (defScope s_l_names) := ⟨rfl, rfl, rfl, by decide +kernel, rfl, by decide +kernel, by decide +kernel⟩
theorem ok_l_names {f : Addr} {fd : FuncData} (T : Txt K mg C) (F : Fun K "_law_names" "_law_names" s_l_names f fd) : FnOk P w K mg base CX0 1 f fd ["_law_cell_here", "_law_many"] (pSp ⟨K, w⟩ 2 (len? 2 (mir ["_law_cell_here", "_law_many", "_law_letters", "_law_size", "_law_at", "_law_names_here", "_law_k", "_law_name", "_law_j", "_law_step"] g_l_names))) := by
  have sc := sc_l_names
  refine fn_pure (k := 0) F sc_l_names (fun cdv A outer s H E B hr => ?_)
  exact (dss_cons (ds_set (i := 2) sc.nd (by rfl) (by first|exact .inl rfl|exact .inr rfl) de_str) (dss_cons (ds_set (i := 3) sc.nd (by rfl) (by first|exact .inl rfl|exact .inr rfl) (de_plus de_int.read (DE.read (de_mod (dr_var 0 (pv 0)) de_int.read)))) (dss_cons (ds_if (dt_cmp op_le ok_le (dr_var 1 (pv 1)) de_int.read (nomark _)) (dss_one (ds_set (i := 3) sc.nd (by rfl) (by first|exact .inl rfl|exact .inr rfl) (de_plus de_int.read (DE.read (de_mod (dr_var 0 (pv 0)) de_int.read))))) dss_nil) (dss_cons (ds_set (i := 4) sc.nd (by rfl) (by first|exact .inl rfl|exact .inr rfl) (de_mod (DE.read (de_div (dr_var 0 (pv 0)) de_int.read)) (dr_var 3 (pv 3)))) (dss_cons (ds_setA (i := 5) sc.nd (by rfl) (by first|exact .inl rfl|exact .inr rfl) (da_lst das_nil)) (dss_cons (ds_for (t := (.name 6)) PassesOwn.never (by rfl) (di_rng1 (by rfl) T.b_range (drs_cons (dr_var 1 (pv 1)) drs_nil)) (pg_name (i := 6) sc.nd (by rfl) (by first|exact .inl rfl|exact .inr rfl)) (dss_cons (ds_set (i := 7) sc.nd (by rfl) (by first|exact .inl rfl|exact .inr rfl) de_str) (dss_cons (ds_for (t := (.name 8)) PassesOwn.never (by rfl) (di_rng1 (by rfl) T.b_range (drs_cons (dr_var 3 (pv 3)) drs_nil)) (pg_name (i := 8) sc.nd (by rfl) (by first|exact .inl rfl|exact .inr rfl)) (dss_cons (ds_set (i := 9) sc.nd (by rfl) (by first|exact .inl rfl|exact .inr rfl) (de_div (dr_var 0 (pv 0)) (DE.read (de_plus de_int.read (DE.read (de_mul de_int.read (dr_var 8 (pv 8)))))))) (dss_cons (ds_if (dt_cmp (op_eqD hr.units) ok_eq (dr_var 8 (pv 8)) (dr_var 4 (pv 4)) (nomark _)) (dss_one (ds_set (i := 9) sc.nd (by rfl) (by first|exact .inl rfl|exact .inr rfl) (de_plus (dr_var 9 (pv 9)) (DE.read (de_mod (dr_var 6 (pv 6)) de_int.read))))) dss_nil) (dss_cons (ds_if (dt_cmp (op_eqD hr.units) ok_eq (dr_var 8 (pv 8)) (DE.read (de_mod (DE.read (de_plus (dr_var 4 (pv 4)) de_int.read)) (dr_var 3 (pv 3)))) (nomark _)) (dss_one (ds_set (i := 9) sc.nd (by rfl) (by first|exact .inl rfl|exact .inr rfl) (de_plus (dr_var 9 (pv 9)) (DE.read (de_div (dr_var 6 (pv 6)) de_int.read))))) dss_nil) (dss_one (ds_if (dt_cmp (op_eqD hr.units) ok_eq (dr_var 8 (pv 8)) de_int.read (nomark _)) (dss_one (ds_set (i := 7) sc.nd (by rfl) (by first|exact .inl rfl|exact .inr rfl) (de_plus (dr_var 7 (pv 7)) (DE.read (de_item2 (dr_var 2 (pv 2)) (DE.read (de_mod (dr_var 9 (pv 9)) de_int.read)) (by intro _ _; rfl)))))) (dss_one (ds_set (i := 7) sc.nd (by rfl) (by first|exact .inl rfl|exact .inr rfl) (de_plus (dr_var 7 (pv 7)) (DE.read (de_item2 (DE.read (de_plus (dr_var 2 (pv 2)) (DE.read de_str))) (DE.read (de_mod (dr_var 9 (pv 9)) de_int.read)) (by intro _ _; rfl)))))))))))) (dss_one (ds_app 5 (pv 5) (de_var 7 (pv 7))))))) (dss_one (ds_retV 5 (pv 5)))))))))
theorem sc_l_rows : FnScope ["_law_script", "_law_names_here", "_law_rows_here", "_law_turns", "_law_picks", "_law_turn", "_law_pick", "_law_some", "_law_k"] ["_law_script", "_law_names_here"] (defScope s_l_rows) := ⟨rfl, rfl, rfl, by decide +kernel, rfl, by decide +kernel, by decide +kernel⟩
theorem ok_l_rows {f : Addr} {fd : FuncData} (T : Txt K mg C) (F : Fun K "_law_rows" "_law_rows" s_l_rows f fd) (h_l_row : Fx P w K mg base "_law_row" 2 4 m_l_row) (h_l_cell : Fx P w K mg base "_law_cell" 1 2 m_l_cell) : FnOk P w K mg base CX0 3 f fd ["_law_script", "_law_names_here"] (pSp ⟨K, w⟩ 2 (len? 2 (mir ["_law_script", "_law_names_here", "_law_rows_here", "_law_turns", "_law_picks", "_law_turn", "_law_pick", "_law_some", "_law_k"] g_l_rows))) := by
  have sc := sc_l_rows
  refine fn_pure (k := 2) F sc_l_rows (fun cdv A outer s H E B hr => ?_)
  exact (dss_cons (ds_setA (i := 2) sc.nd (by rfl) (by first|exact .inl rfl|exact .inr rfl) (da_lst das_nil)) (dss_cons (ds_set (i := 3) sc.nd (by rfl) (by first|exact .inl rfl|exact .inr rfl) (DA.frz (da_callF h_l_row (hr.mono (by decide)) (by rfl) (dns_cons (dn_var 0 (pv 0)) (dns_cons (dn_val de_int) (dns_cons (dn_val (de_pow de_int.read de_int.read)) (dns_cons (dn_val (de_mod (DE.read (de_callF h_l_cell (hr.mono (by decide)) (by rfl) (dns_cons (dn_var 0 (pv 0)) (dns_cons (dn_val de_int) dns_nil)))) de_int.read)) dns_nil))))))) (dss_cons (ds_set (i := 4) sc.nd (by rfl) (by first|exact .inl rfl|exact .inr rfl) (DA.frz (da_callF h_l_row (hr.mono (by decide)) (by rfl) (dns_cons (dn_var 0 (pv 0)) (dns_cons (dn_val de_int) (dns_cons (dn_val (de_pow de_int.read de_int.read)) (dns_cons (dn_val (de_len (by rfl) T.b_len (drs_cons (dr_var 3 (pv 3)) drs_nil))) dns_nil))))))) (dss_cons (ds_for (t := (.tup [5, 6])) PassesOwn.never (by rfl) (di_zip hb0 (by rfl) T.b_zip (dqs_cons hb0 (dq_var 3 (pv 3)) (dqs_cons hb0 (dq_var 4 (pv 4)) dqs_nil))) (pg_tup (by rfl) (pgs_cons (pg_name (i := 5) sc.nd (by rfl) (by first|exact .inl rfl|exact .inr rfl)) (pgs_cons (pg_name (i := 6) sc.nd (by rfl) (by first|exact .inl rfl|exact .inr rfl)) pgs_nil))) (dss_cons (ds_setA (i := 7) sc.nd (by rfl) (by first|exact .inl rfl|exact .inr rfl) (da_lst das_nil)) (dss_cons (ds_for (t := (.name 8)) PassesOwn.never (by rfl) (di_rng1 (by rfl) T.b_range (drs_cons (DE.read (de_mod (dr_var 6 (pv 6)) de_int.read)) drs_nil)) (pg_name (i := 8) sc.nd (by rfl) (by first|exact .inl rfl|exact .inr rfl)) (dss_cons (ds_set (i := 6) sc.nd (by rfl) (by first|exact .inl rfl|exact .inr rfl) (de_div (dr_var 6 (pv 6)) de_int.read)) (dss_one (ds_app 7 (pv 7) (de_item2 (dr_var 1 (pv 1)) (DE.read (de_mod (dr_var 6 (pv 6)) (DE.read (de_len (by rfl) T.b_len (drs_cons (dr_var 1 (pv 1)) drs_nil))))) (by intro _ _; rfl)))))) (dss_cons (ds_if (dt_cmp (op_eqD hr.units) ok_eq (DE.read (de_mod (dr_var 5 (pv 5)) de_int.read)) de_int.read (nomark _)) (dss_one (ds_set (i := 5) sc.nd (by rfl) (by first|exact .inl rfl|exact .inr rfl) (de_mod (DE.read (de_div (dr_var 5 (pv 5)) de_int.read)) de_int.read))) dss_nil) (dss_one (ds_frz 7 (ds_app 2 (pv 2) (de_tup (das_cons (de_var 5 (pv 5)) (das_cons (de_var 7 (pv 7)) das_nil)))))))))) (dss_one (ds_retV 2 (pv 2)))))))
theorem sc_l_queue : FnScope ["_law_script", "_law_names_here", "_law_queue_here", "_law_step"] ["_law_script", "_law_names_here"] (defScope s_l_queue) := ⟨rfl, rfl, rfl, by decide +kernel, rfl, by decide +kernel, by decide +kernel⟩
theorem ok_l_queue {f : Addr} {fd : FuncData} (T : Txt K mg C) (F : Fun K "_law_queue" "_law_queue" s_l_queue f fd) (h_l_row : Fx P w K mg base "_law_row" 2 4 m_l_row) (h_l_cell : Fx P w K mg base "_law_cell" 1 2 m_l_cell) : FnOk P w K mg base CX0 3 f fd ["_law_script", "_law_names_here"] (pSp ⟨K, w⟩ 2 (len? 2 (mir ["_law_script", "_law_names_here", "_law_queue_here", "_law_step"] g_l_queue))) := by
  have sc := sc_l_queue
  refine fn_pure (k := 2) F sc_l_queue (fun cdv A outer s H E B hr => ?_)
  exact (dss_cons (ds_setA (i := 2) sc.nd (by rfl) (by first|exact .inl rfl|exact .inr rfl) (da_lst das_nil)) (dss_cons (ds_for (t := (.name 3)) PassesOwn.never (by rfl) (di_list hb0 (DE.fix (DA.frz (da_callF h_l_row (hr.mono (by decide)) (by rfl) (dns_cons (dn_var 0 (pv 0)) (dns_cons (dn_val de_int) (dns_cons (dn_val (de_mul de_int.read (DE.read (de_pow de_int.read de_int.read)))) (dns_cons (dn_val (de_mod (DE.read (de_callF h_l_cell (hr.mono (by decide)) (by rfl) (dns_cons (dn_var 0 (pv 0)) (dns_cons (dn_val de_int) dns_nil)))) de_int.read)) dns_nil)))))))) (pg_name (i := 3) sc.nd (by rfl) (by first|exact .inl rfl|exact .inr rfl)) (dss_one (ds_app 2 (pv 2) (de_tup (das_cons (de_item2 (dr_var 1 (pv 1)) (DE.read (de_mod (dr_var 3 (pv 3)) (DE.read (de_len (by rfl) T.b_len (drs_cons (dr_var 1 (pv 1)) drs_nil))))) (by intro _ _; rfl)) (das_cons (de_div (dr_var 3 (pv 3)) de_int.read) das_nil)))))) (dss_one (ds_retV 2 (pv 2)))))
theorem sc_l_rows_text : FnScope ["_law_rows_here", "_law_texts", "_law_turn", "_law_names_here", "_law_text", "_law_name"] ["_law_rows_here"] (defScope s_l_rows_text) := ⟨rfl, rfl, rfl, by decide +kernel, rfl, by decide +kernel, by decide +kernel⟩
theorem ok_l_rows_text {f : Addr} {fd : FuncData} (T : Txt K mg C) (F : Fun K "_law_rows_text" "_law_rows_text" s_l_rows_text f fd) : FnOk P w K mg base CX0 1 f fd ["_law_rows_here"] (pSp ⟨K, w⟩ 1 (len? 1 (mir ["_law_rows_here", "_law_texts", "_law_turn", "_law_names_here", "_law_text", "_law_name"] g_l_rows_text))) := by
  have sc := sc_l_rows_text
  refine fn_pure (k := 0) F sc_l_rows_text (fun cdv A outer s H E B hr => ?_)
  exact (dss_cons (ds_setA (i := 1) sc.nd (by rfl) (by first|exact .inl rfl|exact .inr rfl) (da_lst das_nil)) (dss_cons (ds_for (t := (.tup [2, 3])) PassesOwn.never (by rfl) (di_list hb0 (dq_var 0 (pv 0))) (pg_tup (by rfl) (pgs_cons (pg_name (i := 2) sc.nd (by rfl) (by first|exact .inl rfl|exact .inr rfl)) (pgs_cons (pg_name (i := 3) sc.nd (by rfl) (by first|exact .inl rfl|exact .inr rfl)) pgs_nil))) (dss_cons (ds_set (i := 4) sc.nd (by rfl) (by first|exact .inl rfl|exact .inr rfl) (de_plus (DE.read (de_strc (by rfl) T.b_str (drs_cons (dr_var 2 (pv 2)) drs_nil))) (DE.read de_str))) (dss_cons (ds_for (t := (.name 5)) PassesOwn.never (by rfl) (di_list hb0 (dq_var 3 (pv 3))) (pg_name (i := 5) sc.nd (by rfl) (by first|exact .inl rfl|exact .inr rfl)) (dss_one (ds_set (i := 4) sc.nd (by rfl) (by first|exact .inl rfl|exact .inr rfl) (de_plus (DE.read (de_plus (dr_var 4 (pv 4)) (DE.read de_str))) (dr_var 5 (pv 5)))))) (dss_one (ds_app 1 (pv 1) (de_var 4 (pv 4))))))) (dss_cons (ds_if (dt_cmp (op_eqD hr.units) ok_eq (dr_var 1 (pv 1)) (DA.read (da_lst das_nil)) (nomark _)) (dss_one (ds_ret de_str)) dss_nil) (dss_one (ds_ret (de_join (DE.read de_str) (drs_cons (dr_var 1 (pv 1)) drs_nil)))))))
theorem sc_l_queue_text : FnScope ["_law_queue_here", "_law_texts"] ["_law_queue_here"] (defScope s_l_queue_text) := ⟨rfl, rfl, rfl, by decide +kernel, rfl, by decide +kernel, by decide +kernel⟩
theorem ok_l_queue_text {f : Addr} {fd : FuncData} (T : Txt K mg C) (F : Fun K "_law_queue_text" "_law_queue_text" s_l_queue_text f fd) : FnOk P w K mg base CX0 1 f fd ["_law_queue_here"] (pSp ⟨K, w⟩ 1 (len? 1 (mir ["_law_queue_here", "_law_texts"] g_l_queue_text))) := by
  have sc := sc_l_queue_text
  refine fn_pure (k := 0) F sc_l_queue_text (fun cdv A outer s H E B hr => ?_)
  exact (dss_cons (ds_setC (i := 1) (own := ["_law_name", "_law_left"]) (cap := []) (t := (.tup [0, 1])) (by rfl) (comp_scope (sc := (defScope s_l_queue_text).names) (N := ["_law_queue_here", "_law_texts"]) (by rfl) (by rfl) (by rfl) (by decide +kernel)) (di_list hb1 (DR.cur (dr_var 0 (pv 0)))) (by decide) (fun B' C' s₀ H₀ fp pn => ⟨(pg_tup (by rfl) (pgs_cons (pg_name (i := 0) (show List.Nodup (["_law_name", "_law_left"] : List Str) from by decide +kernel) (by rfl) (by first|exact .inl rfl|exact .inr rfl)) (pgs_cons (pg_name (i := 1) (show List.Nodup (["_law_name", "_law_left"] : List Str) from by decide +kernel) (by rfl) (by first|exact .inl rfl|exact .inr rfl)) pgs_nil))), difs_nil, (de_plus (DE.read (de_plus (dr_var 0 (pv 0)) (DE.read de_str))) (DE.read (de_strc (by rfl) T.b_str (drs_cons (dr_var 1 (pv 1)) drs_nil))))⟩) sc.nd (by rfl) (by first|exact .inl rfl|exact .inr rfl)) (dss_cons (ds_if (dt_cmp (op_eqD hr.units) ok_eq (dr_var 1 (pv 1)) (DA.read (da_lst das_nil)) (nomark _)) (dss_one (ds_ret de_str)) dss_nil) (dss_one (ds_ret (de_join (DE.read de_str) (drs_cons (dr_var 1 (pv 1)) drs_nil))))))
theorem sc_l_rows_right : FnScope ["_law_rows_here", "_law_handed", "_law_due", "_law_found", "_law_row_here"] ["_law_rows_here"] (defScope s_l_rows_right) := ⟨rfl, rfl, rfl, by decide +kernel, rfl, by decide +kernel, by decide +kernel⟩
theorem ok_l_rows_right {f : Addr} {fd : FuncData} (T : Txt K mg C) (F : Fun K "_law_rows_right" "_law_rows_right" s_l_rows_right f fd) (h_rows_in : Fx P w K mg base "rows_in" 4 1 m_rows_in) (h_rows_text : Fx P w K mg base "rows_text" 2 1 m_rows_text) (h_l_rows_text : Fx P w K mg base "_law_rows_text" 1 1 m_l_rows_text) : FnOk P w K mg base CX0 5 f fd ["_law_rows_here"] (pSp ⟨K, w⟩ 1 (len? 1 (mir ["_law_rows_here", "_law_handed", "_law_due", "_law_found", "_law_row_here"] g_l_rows_right))) := by
  have sc := sc_l_rows_right
  refine fn_pure (k := 4) F sc_l_rows_right (fun cdv A outer s H E B hr => ?_)
  exact (dss_cons (ds_setC (i := 1) (own := ["_law_turn", "_law_names_here"]) (cap := []) (t := (.tup [0, 1])) (by rfl) (comp_scope (sc := (defScope s_l_rows_right).names) (N := ["_law_rows_here", "_law_handed", "_law_due", "_law_found", "_law_row_here"]) (by rfl) (by rfl) (by rfl) (by decide +kernel)) (di_list hb1 (DR.cur (dr_var 0 (pv 0)))) (by decide) (fun B' C' s₀ H₀ fp pn => ⟨(pg_tup (by rfl) (pgs_cons (pg_name (i := 0) (show List.Nodup (["_law_turn", "_law_names_here"] : List Str) from by decide +kernel) (by rfl) (by first|exact .inl rfl|exact .inr rfl)) (pgs_cons (pg_name (i := 1) (show List.Nodup (["_law_turn", "_law_names_here"] : List Str) from by decide +kernel) (by rfl) (by first|exact .inl rfl|exact .inr rfl)) pgs_nil))), difs_nil, (de_tup (das_cons (de_var 0 (pv 0)) (das_cons (DA.frz (da_list (by rfl) T.b_list (drs_cons (dr_var 1 (pv 1)) drs_nil))) das_nil)))⟩) sc.nd (by rfl) (by first|exact .inl rfl|exact .inr rfl)) (dss_cons (ds_set (i := 2) sc.nd (by rfl) (by first|exact .inl rfl|exact .inr rfl) (de_callF h_l_rows_text (hr.mono (by decide)) (by rfl) (dns_cons (dn_var 0 (pv 0)) dns_nil))) (dss_cons (ds_if (dt_w (dw_or (dt_cmp (op_neD hr.units) ok_eq (DE.read (de_callF h_rows_text (hr.mono (by decide)) (by rfl) (dns_cons (dn_var 1 (pv 1)) dns_nil))) (dr_var 2 (pv 2)) (nomark _)) (dw_or1 (dt_cmp (op_neD hr.units) ok_eq (dr_var 1 (pv 1)) (dr_var 0 (pv 0)) (nomark _))))) (dss_one (ds_ret de_bl)) dss_nil) (dss_cons (ds_setT (i := 3) sc.nd (by rfl) (by first|exact .inl rfl|exact .inr rfl) (dtr_callF h_rows_in (hr.mono (by decide)) (by rfl) (dns_cons (dn_var 2 (pv 2)) dns_nil))) (dss_cons (ds_if (dt_w (dw_or (dt_not (dt_truth (DE.read (de_isinstH (kitT "list" (by decide)) (by rfl) T.b_isinstance (by rfl) T.b_list (by decide +kernel) (dh_var 3 (pv 3)))) (by intro _; rfl))) (dw_or1 (dt_cmpH (op_neD hr.units) ok_eq (dh_var 3 (pv 3)) (DR.heap (dr_var 0 (pv 0))) (nomark _))))) (dss_one (ds_ret de_bl)) dss_nil) (dss_cons (ds_allTt 3 4 1 (by decide) PassesOwn.never (by rfl) (pv 3) (pv 4) (pg_name (i := 4) sc.nd (by rfl) (by first|exact .inl rfl|exact .inr rfl)) pe_int (by intro _ _; rfl) PySem.F.slot_list_append PySem.F.type_list_append mt_append ok_append (das_cons de_str das_nil) (fun _ => rfl) (dt_w (dw_or (dt_not (dt_truth (DE.read (de_isinstH (kitT "tuple" (by decide)) (by rfl) T.b_isinstance (by rfl) T.b_tuple (by decide +kernel) (dh_var 4 (pv 4)))) (by intro _; rfl))) (dw_or (dt_truth (DE.read (de_isinstH (kitT "bool" (by decide)) (by rfl) T.b_isinstance (by rfl) T.b_bool (by decide +kernel) (dh_item (dh_var 4 (pv 4)) (DR.heap de_int.read) (by intro _ _; rfl)))) (by intro _; rfl)) (dw_or1 (dt_not (dt_truth (DE.read (de_isinstH (kitT "list" (by decide)) (by rfl) T.b_isinstance (by rfl) T.b_list (by decide +kernel) (dh_item (dh_var 4 (pv 4)) (DR.heap de_int.read) (by intro _ _; rfl)))) (by intro _; rfl))))))) de_bl) (dss_one (ds_ret (de_cmp (op_eqD hr.units) ok_eq (DE.read (de_callF h_rows_in (hr.mono (by decide)) (by rfl) (dns_cons (dn_var 2 (pv 2)) dns_nil))) (dr_var 0 (pv 0)) (nomark _))))))))))
theorem sc_l_queue_right : FnScope ["_law_queue_here", "_law_handed", "_law_due", "_law_found"] ["_law_queue_here"] (defScope s_l_queue_right) := ⟨rfl, rfl, rfl, by decide +kernel, rfl, by decide +kernel, by decide +kernel⟩
theorem ok_l_queue_right {f : Addr} {fd : FuncData} (T : Txt K mg C) (F : Fun K "_law_queue_right" "_law_queue_right" s_l_queue_right f fd) (h_queue_in : Fx P w K mg base "queue_in" 4 1 m_queue_in) (h_queue_text : Fx P w K mg base "queue_text" 2 1 m_queue_text) (h_l_queue_text : Fx P w K mg base "_law_queue_text" 1 1 m_l_queue_text) : FnOk P w K mg base CX0 5 f fd ["_law_queue_here"] (pSp ⟨K, w⟩ 1 (len? 1 (mir ["_law_queue_here", "_law_handed", "_law_due", "_law_found"] g_l_queue_right))) := by
  have sc := sc_l_queue_right
  refine fn_pure (k := 4) F sc_l_queue_right (fun cdv A outer s H E B hr => ?_)
  exact (dss_cons (ds_set (i := 1) sc.nd (by rfl) (by first|exact .inl rfl|exact .inr rfl) (DA.frz (da_list (by rfl) T.b_list (drs_cons (dr_var 0 (pv 0)) drs_nil)))) (dss_cons (ds_set (i := 2) sc.nd (by rfl) (by first|exact .inl rfl|exact .inr rfl) (de_callF h_l_queue_text (hr.mono (by decide)) (by rfl) (dns_cons (dn_var 0 (pv 0)) dns_nil))) (dss_cons (ds_if (dt_w (dw_or (dt_cmp (op_neD hr.units) ok_eq (DE.read (de_callF h_queue_text (hr.mono (by decide)) (by rfl) (dns_cons (dn_var 1 (pv 1)) dns_nil))) (dr_var 2 (pv 2)) (nomark _)) (dw_or1 (dt_cmp (op_neD hr.units) ok_eq (dr_var 1 (pv 1)) (dr_var 0 (pv 0)) (nomark _))))) (dss_one (ds_ret de_bl)) dss_nil) (dss_cons (ds_setA (i := 3) sc.nd (by rfl) (by first|exact .inl rfl|exact .inr rfl) (da_callF h_queue_in (hr.mono (by decide)) (by rfl) (dns_cons (dn_var 2 (pv 2)) dns_nil))) (dss_cons (ds_if (dt_w (dw_or (dt_not (dt_truth (DE.read (de_isinst (kitT "list" (by decide)) (by rfl) T.b_isinstance (by rfl) T.b_list (by decide +kernel) (dr_var 3 (pv 3)))) (by intro _; rfl))) (dw_or1 (dt_cmp (op_neD hr.units) ok_eq (dr_var 3 (pv 3)) (dr_var 0 (pv 0)) (nomark _))))) (dss_one (ds_ret de_bl)) dss_nil) (dss_cons (ds_if (dt_cmp op_gt ok_gt (DE.read (de_len (by rfl) T.b_len (drs_cons (DA.read (da_comp (own := ["_law_row_here"]) (cap := []) (t := (.name 0)) (by rfl) (comp_scope (sc := (defScope s_l_queue_right).names) (N := ["_law_queue_here", "_law_handed", "_law_due", "_law_found"]) (by rfl) (by rfl) (by rfl) (by decide +kernel)) (di_list hb1 (DR.cur (dr_var 3 (pv 3)))) (by decide) (fun B' C' s₀ H₀ fp pn => ⟨(pg_name (i := 0) (show List.Nodup (["_law_row_here"] : List Str) from by decide +kernel) (by rfl) (by first|exact .inl rfl|exact .inr rfl)), (difs_one (dt_w (dw_or (dt_not (dt_truth (DE.read (de_isinst (kitT "tuple" (by decide)) (by rfl) T.b_isinstance (by rfl) T.b_tuple (by decide +kernel) (dr_var 0 (pv 0)))) (by intro _; rfl))) (dw_or1 (dt_truth (DE.read (de_isinst (kitT "bool" (by decide)) (by rfl) T.b_isinstance (by rfl) T.b_bool (by decide +kernel) (DE.read (de_item2 (dr_var 0 (pv 0)) de_int.read (by intro _ _; rfl))))) (by intro _; rfl)))))), (de_var 0 (pv 0))⟩))) drs_nil))) de_int.read (nomark _)) (dss_one (ds_ret de_bl)) dss_nil) (dss_cons (ds_app 3 (pv 3) (de_tup (das_cons de_str (das_cons de_int das_nil)))) (dss_one (ds_ret (de_cmp (op_eqD hr.units) ok_eq (DA.read (da_callF h_queue_in (hr.mono (by decide)) (by rfl) (dns_cons (dn_var 2 (pv 2)) dns_nil))) (dr_var 0 (pv 0)) (nomark _)))))))))))
theorem sc_law : FnScope ["_law_script", "_law_names_here", "_law_rows_here", "_law_queue_here", "_law_some", "_law_number", "_law_found"] ["_law_script"] (defScope s_law) := ⟨rfl, rfl, rfl, by decide +kernel, rfl, by decide +kernel, by decide +kernel⟩
theorem ok_law {f : Addr} {fd : FuncData} (T : Txt K mg C) (F : Fun K "law" "law" s_law f fd) (h_number_in : Fx P w K mg base "number_in" 1 1 m_number_in) (h_l_queue_right : Fx P w K mg base "_law_queue_right" 5 1 m_l_queue_right) (h_l_rows_right : Fx P w K mg base "_law_rows_right" 5 1 m_l_rows_right) (h_l_queue : Fx P w K mg base "_law_queue" 3 2 m_l_queue) (h_l_rows : Fx P w K mg base "_law_rows" 3 2 m_l_rows) (h_l_names : Fx P w K mg base "_law_names" 1 2 m_l_names) (h_l_cell : Fx P w K mg base "_law_cell" 1 2 m_l_cell) : FnOk P w K mg base CX0 6 f fd ["_law_script"] (pSp ⟨K, w⟩ 1 (len? 1 (mir ["_law_script", "_law_names_here", "_law_rows_here", "_law_queue_here", "_law_some", "_law_number", "_law_found"] g_law))) := by
  have sc := sc_law
  refine fn_pure (k := 5) F sc_law (fun cdv A outer s H E B hr => ?_)
  exact (dss_cons (ds_set (i := 1) sc.nd (by rfl) (by first|exact .inl rfl|exact .inr rfl) (DA.frz (da_callF h_l_names (hr.mono (by decide)) (by rfl) (dns_cons (dn_val (de_callF h_l_cell (hr.mono (by decide)) (by rfl) (dns_cons (dn_var 0 (pv 0)) (dns_cons (dn_val de_int) dns_nil)))) (dns_cons (dn_val (de_plus de_int.read (DE.read (de_mod (DE.read (de_callF h_l_cell (hr.mono (by decide)) (by rfl) (dns_cons (dn_var 0 (pv 0)) (dns_cons (dn_val de_int) dns_nil)))) de_int.read)))) dns_nil))))) (dss_cons (ds_set (i := 2) sc.nd (by rfl) (by first|exact .inl rfl|exact .inr rfl) (DA.frz (da_callF h_l_rows (hr.mono (by decide)) (by rfl) (dns_cons (dn_var 0 (pv 0)) (dns_cons (dn_var 1 (pv 1)) dns_nil))))) (dss_cons (ds_set (i := 3) sc.nd (by rfl) (by first|exact .inl rfl|exact .inr rfl) (DA.frz (da_callF h_l_queue (hr.mono (by decide)) (by rfl) (dns_cons (dn_var 0 (pv 0)) (dns_cons (dn_var 1 (pv 1)) dns_nil))))) (dss_cons (ds_for (t := (.name 4)) PassesOwn.never (by rfl) (di_list hb0 (DE.fix (DA.frz (da_lst (das_cons (de_var 2 (pv 2)) (das_cons (DA.frz (da_slice (dr_var 2 (pv 2)) do_none (do_some de_int.read))) (das_cons (DA.frz (da_slice (dr_var 2 (pv 2)) (do_some (DE.read (de_neg de_int.read))) do_none)) (das_cons (DA.frz (da_lst das_nil)) (das_cons (DA.frz (da_lst (das_cons (de_tup (das_cons de_int (das_cons (DA.frz (da_lst das_nil)) das_nil))) das_nil))) das_nil))))))))) (pg_name (i := 4) sc.nd (by rfl) (by first|exact .inl rfl|exact .inr rfl)) (dss_one (ds_if (dt_not (dt_truth (DE.read (de_callF h_l_rows_right (hr.mono (by decide)) (by rfl) (dns_cons (dn_var 4 (pv 4)) dns_nil))) (by intro _; rfl))) (dss_one (ds_ret de_bl)) dss_nil))) (dss_cons (ds_for (t := (.name 4)) PassesOwn.never (by rfl) (di_list hb0 (DE.fix (DA.frz (da_lst (das_cons (de_var 3 (pv 3)) (das_cons (DA.frz (da_slice (dr_var 3 (pv 3)) do_none (do_some de_int.read))) (das_cons (DA.frz (da_slice (dr_var 3 (pv 3)) (do_some (DE.read (de_neg de_int.read))) do_none)) (das_cons (DA.frz (da_lst das_nil)) (das_cons (DA.frz (da_lst (das_cons (de_tup (das_cons (de_item2 (dr_var 1 (pv 1)) de_int.read (by intro _ _; rfl)) (das_cons de_int das_nil))) das_nil))) das_nil))))))))) (pg_name (i := 4) sc.nd (by rfl) (by first|exact .inl rfl|exact .inr rfl)) (dss_one (ds_if (dt_not (dt_truth (DE.read (de_callF h_l_queue_right (hr.mono (by decide)) (by rfl) (dns_cons (dn_var 4 (pv 4)) dns_nil))) (by intro _; rfl))) (dss_one (ds_ret de_bl)) dss_nil))) (dss_cons (ds_for (t := (.name 5)) PassesOwn.never (by rfl) (di_list hb0 (DE.fix (DA.frz (da_catS (DA.read (da_catS (DA.read (da_comp (own := ["_law_turn", "_law_some"]) (cap := []) (t := (.tup [0, 1])) (by rfl) (comp_scope (sc := (defScope s_law).names) (N := ["_law_script", "_law_names_here", "_law_rows_here", "_law_queue_here", "_law_some", "_law_number", "_law_found"]) (by rfl) (by rfl) (by rfl) (by decide +kernel)) (di_list hb1 (DR.cur (dr_var 2 (pv 2)))) (by decide) (fun B' C' s₀ H₀ fp pn => ⟨(pg_tup (by rfl) (pgs_cons (pg_name (i := 0) (show List.Nodup (["_law_turn", "_law_some"] : List Str) from by decide +kernel) (by rfl) (by first|exact .inl rfl|exact .inr rfl)) (pgs_cons (pg_name (i := 1) (show List.Nodup (["_law_turn", "_law_some"] : List Str) from by decide +kernel) (by rfl) (by first|exact .inl rfl|exact .inr rfl)) pgs_nil))), difs_nil, (de_var 0 (pv 0))⟩))) (DA.read (da_comp (own := ["_law_name", "_law_left"]) (cap := []) (t := (.tup [0, 1])) (by rfl) (comp_scope (sc := (defScope s_law).names) (N := ["_law_script", "_law_names_here", "_law_rows_here", "_law_queue_here", "_law_some", "_law_number", "_law_found"]) (by rfl) (by rfl) (by rfl) (by decide +kernel)) (di_list hb1 (DR.cur (dr_var 3 (pv 3)))) (by decide) (fun B' C' s₀ H₀ fp pn => ⟨(pg_tup (by rfl) (pgs_cons (pg_name (i := 0) (show List.Nodup (["_law_name", "_law_left"] : List Str) from by decide +kernel) (by rfl) (by first|exact .inl rfl|exact .inr rfl)) (pgs_cons (pg_name (i := 1) (show List.Nodup (["_law_name", "_law_left"] : List Str) from by decide +kernel) (by rfl) (by first|exact .inl rfl|exact .inr rfl)) pgs_nil))), difs_nil, (de_var 1 (pv 1))⟩))))) (DA.read (da_lst (das_cons de_int (das_cons de_int das_nil)))))))) (pg_name (i := 5) sc.nd (by rfl) (by first|exact .inl rfl|exact .inr rfl)) (dss_cons (ds_set (i := 6) sc.nd (by rfl) (by first|exact .inl rfl|exact .inr rfl) (de_callF h_number_in (hr.mono (by decide)) (by rfl) (dns_cons (dn_val (de_strc (by rfl) T.b_str (drs_cons (dr_var 5 (pv 5)) drs_nil))) dns_nil))) (dss_one (ds_if (dt_w (dw_or (dt_not (dt_truth (DE.read (de_isinst (kitT "int" (by decide)) (by rfl) T.b_isinstance (by rfl) T.b_int (by decide +kernel) (dr_var 6 (pv 6)))) (by intro _; rfl))) (dw_or (dt_truth (DE.read (de_isinst (kitT "bool" (by decide)) (by rfl) T.b_isinstance (by rfl) T.b_bool (by decide +kernel) (dr_var 6 (pv 6)))) (by intro _; rfl)) (dw_or1 (dt_cmp (op_neD hr.units) ok_eq (dr_var 6 (pv 6)) (dr_var 5 (pv 5)) (nomark _)))))) (dss_one (ds_ret de_bl)) dss_nil)))) (dss_one (ds_ret de_bl))))))))
end
end My
namespace My
open PySem PySem.Spec L2 L3 L4 Dv HM QM
open PyProof.Rows hiding St
theorem e_l_cell (ns : List Int) (k : Nat) : m_l_cell [.val (.scr ns), .val (.int k)] = some (.val (.int (ns.getD k 0))) := by
  by_cases h : k < ns.length
  · have e : atI ns (k : Int) = some ns[k] := atI_at k (List.getElem?_eq_getElem h)
    simp [m_l_cell, mir, stE, N_l_cell, g_l_cell, h, e]
  · simp [m_l_cell, mir, stE, N_l_cell, g_l_cell, h]
theorem e_l_stir (a : Int) (k : Int) : ∃ z, m_l_stir [.val (.int a), .val (.int k)] = some (.val (.int z)) := by
  have h1 : ∀ x : Int, -LIM < x % 2147483647 := fun x => by unfold LIM; omega
  have h1' : ∀ x : Int, x % 2147483647 < LIM := fun x => by unfold LIM; omega
  have h2 : ∀ x : Int, -LIM < x % 2147483629 := fun x => by unfold LIM; omega
  have h2' : ∀ x : Int, x % 2147483629 < LIM := fun x => by unfold LIM; omega
  have l1 : -LIM < 69621 := by decide
  have l2 : 69621 < LIM := by decide
  have l3 : -LIM < 16807 := by decide
  have l4 : 16807 < LIM := by decide
  simp [m_l_stir, mir, stE, N_l_stir, g_l_stir, mod_ok, mul_l, h1, h2, h1', h2', l1, l2, l3, l4]
theorem row_loop (X0 X1 X3 : Option En) (b : Int) (hb : 0 < b) (hb2 : b < 1073741824) : ∀ (ks : List Nat) (c : Int) (k0 : Option En) (vs : List Int), vs.length + ks.length <= 1000 -> (∀ v ∈ vs, 0 <= v /\ v < b) ->
    ∃ (c' : Int) (k' : Option En) (vs' : List Int), (∀ v ∈ vs', 0 <= v /\ v < b) /\ vs'.length = vs.length + ks.length /\
      forD (.name 6) b_l_row_0 (ks.map fun (k : Nat) => D.int (0 + (k : Int))) [X0, X1, some (.val (.int b)), X3, some (.val (.int c)), some (.acc (vs.map D.int)), k0]
      = some (.next [X0, X1, some (.val (.int b)), X3, some (.val (.int c')), some (.acc (vs'.map D.int)), k'])
  | [], c, k0, vs, hl, hv => ⟨c, k0, vs, hv, by simp, by simp⟩
  | k :: ks, c, k0, vs, hl, hv => by
    simp only [List.length_cons] at hl
    have ht : (vs.map D.int).length <= TOP := by simp [TOP]; omega
    have ht' : vs.length <= TOP := by simp [TOP]; omega
    obtain ⟨c', k', vs', p1, p2, p3⟩ := row_loop X0 X1 X3 b hb hb2 ks (c / b) (some (.val (.int (0 + (k : Int))))) (vs ++ [c % b]) (by simp; omega) (by
      intro w hw
      rcases List.mem_append.mp hw with h | h
      · exact hv w h
      · rw [List.mem_singleton.mp h]; exact ⟨Int.emod_nonneg _ (by omega), Int.emod_lt_of_pos _ hb⟩)
    refine ⟨c', k', vs', p1, by rw [p2]; simp; omega, ?_⟩
    rw [<- p3]
    simp [b_l_row_0, mod_ok hb, div_ok hb hb2, ht, ht']
theorem row_comp (b c : Int) (hb : 0 < b) : ∀ ks : List Nat, ∃ vs : List Int, (∀ v ∈ vs, 0 <= v /\ v < b) /\ vs.length = ks.length /\
    compD (.name 0) tYes e_l_row_1 [none, some (.val (.int b)), some (.val (.int c))] (ks.map fun (k : Nat) => D.int (0 + (k : Int))) = some (vs.map D.int)
  | [] => ⟨[], by simp, rfl, by simp [compD]⟩
  | k :: ks => by
    obtain ⟨vs, p1, p2, p3⟩ := row_comp b c hb ks
    obtain ⟨z, hz⟩ := e_l_stir c (0 + (k : Int))
    refine ⟨(z / 8 % b) :: vs, ?_, by simp [p2], ?_⟩
    · intro v hv
      rcases List.mem_cons.mp hv with rfl | hv
      · exact ⟨Int.emod_nonneg _ (by omega), Int.emod_lt_of_pos _ hb⟩
      · exact p1 v hv
    · simp at hz
      simp [compD, e_l_row_1, hz, mod_ok hb, div_ok, p3, asgD] at p3 ⊢
      simp [p3]
theorem e_l_row (ns : List Int) (at0 : Nat) (b : Int) (n : Nat) (hb : 0 < b) (hb2 : b < 1073741824) (hn : n <= 900) : ∃ vs : List Int, (∀ v ∈ vs, 0 <= v /\ v < b) /\ vs.length = n /\
    m_l_row [.val (.scr ns), .val (.int at0), .val (.int b), .val (.int n)] = some (.acc (vs.map D.int)) := by
  have e0 := e_l_cell ns at0
  have e00 := e_l_cell ns 0
  have hB : -BIG <= (n : Int) /\ (n : Int) <= BIG := by unfold BIG; omega
  have hs : (0 : Int) <= (at0 : Int) % 8 := by omega
  by_cases q : Builtin.bitAnd (ns.getD 0 0 / 2 ^ ((at0 : Int) % 8).toNat) 1 = 1
  · obtain ⟨vs, p1, p2, p3⟩ := row_comp b (ns.getD at0 0) hb (List.range n)
    refine ⟨vs, p1, by simpa using p2, ?_⟩
    simp at e00 q
    simp only [m_l_row, mir, stE, N_l_row, g_l_row]
    simp [e0, e00, hB, rngD_map, TOP, mod_ok, shr_ok hs, q] at p3 ⊢
    have hn2 : n <= 1000000 := by omega
    simp [p3, hn2]
  · obtain ⟨c', k', vs', p1, p2, p3⟩ := row_loop (some (.val (.scr ns))) (some (.val (.int at0))) (some (.val (.int n))) b hb hb2 (List.range n) (ns.getD at0 0) none [] (by simp; omega) (by simp)
    refine ⟨vs', p1, by simpa using p2, ?_⟩
    simp at e00 q
    simp only [m_l_row, mir, stE, N_l_row, g_l_row]
    simp [e0, e00, hB, rngD_map, TOP, mod_ok, shr_ok hs, q] at p3 ⊢
    simp [p3]
theorem asBs_true {α : Type} : ∀ (rs : List α), asBs (rs.map fun _ => D.bl true) = some (rs.map fun _ => true)
  | [] => rfl
  | r :: rs => by simp [asBs, asBs_true rs]
theorem t2 : 2 <= TOP := by decide
def LET : Str := "abcdefghijklmnopqrstuvwxyz"
theorem let_mk : LET = mk (S36.take 26) := by decide +kernel
theorem dig_mk : ("0123456789" : Str) = mk (S36.drop 26) := by decide +kernel
theorem let_item {a : Int} (h1 : 0 <= a) (h2 : a < 26) : fItem (.str LET) (.int a) = some (.str (mk [sg a])) := by
  rw [let_mk, item_mk (by decide) h1 (by simpa [S36] using h2)]
  congr 3
  unfold sg
  have : a.toNat < 26 := by omega
  congr 1
  simp [List.getD_eq_getElem?_getD, List.getElem?_take, this]
theorem let_dig : LET ++ ("0123456789" : Str) = SIGNS := by decide +kernel
theorem let_len : LET.length = 26 := by decide +kernel
theorem dig_len : Str.length ("0123456789" : Str) = 10 := by decide +kernel
def zz (c at0 size k j : Int) : Int :=
  let z1 := c / (64 + 5 * j)
  let z2 := if j = at0 then z1 + k % 26 else z1
  if j = (at0 + 1) % size then z2 + k / 26 else z2
def sgn (c at0 size k j : Int) : Nat := if j = 0 then sg (zz c at0 size k j % 26) else sg (zz c at0 size k j % 36)
theorem sgn_mem (c at0 size k j : Int) : sgn c at0 size k j ∈ S36 := by
  unfold sgn
  split
  · exact sg_mem (by omega) (by omega)
  · exact sg_mem (by omega) (by omega)
theorem names_in (c at0 size k : Int) (hs : 0 < size) (X1 X5 : Option En) : ∀ (js : List Nat) (l : List Nat) (a8 a9 : Option En), (∀ j ∈ js, j < 100) -> l.length + js.length <= 100 -> (∀ d ∈ l, d ∈ S36) ->
    ∃ (b8 b9 : Option En), forD (.name 8) b_l_names_0 (js.map fun (j : Nat) => D.int (0 + (j : Int))) [some (.val (.int c)), X1, some (.val (.str LET)), some (.val (.int size)), some (.val (.int at0)), X5, some (.val (.int k)), some (.val (.str (mk l))), a8, a9]
      = some (.next [some (.val (.int c)), X1, some (.val (.str LET)), some (.val (.int size)), some (.val (.int at0)), X5, some (.val (.int k)), some (.val (.str (mk (l ++ js.map fun (j : Nat) => sgn c at0 size k (0 + (j : Int)))))), b8, b9])
  | [], l, a8, a9, _, _, hl => ⟨a8, a9, by simp⟩
  | j :: js, l, a8, a9, hj, hn, hl => by
    simp only [List.length_cons] at hn
    have hj0 := hj j List.mem_cons_self
    obtain ⟨b8, b9, p2⟩ := names_in c at0 size k hs X1 X5 js (l ++ [sgn c at0 size k (0 + (j : Int))]) (some (.val (.int (0 + (j : Int))))) (some (.val (.int (zz c at0 size k (0 + (j : Int)))))) (fun i hi => hj i (List.mem_cons_of_mem _ hi)) (by simp; omega) (fun d hd => by
      rcases List.mem_append.mp hd with h | h
      · exact hl d h
      · rw [List.mem_singleton.mp h]; exact sgn_mem ..)
    refine ⟨b8, b9, ?_⟩
    rw [show (l ++ (j :: js).map fun (j : Nat) => sgn c at0 size k (0 + (j : Int))) = (l ++ [sgn c at0 size k (0 + (j : Int))]) ++ js.map fun (j : Nat) => sgn c at0 size k (0 + (j : Int)) by simp, <- p2]
    have h64 : (0 : Int) < 64 + 5 * (j : Int) := by omega
    have h64' : (64 : Int) + 5 * (j : Int) < 1073741824 := by omega
    have m1 : -LIM < 5 := by decide
    have m2 : (5 : Int) < LIM := by decide
    have m3 : -LIM < (j : Int) := by unfold LIM; omega
    have m4 : (j : Int) < LIM := by unfold LIM; omega
    have t1 : l.length + 1 <= TOP := by simp [TOP]; omega
    have i26 := let_item (a := zz c at0 size k (j : Int) % 26) (by omega) (by omega)
    have i36 := sg_item (a := zz c at0 size k (j : Int) % 36) (by omega) (by omega)
    have t36 : 26 + 10 <= TOP := by decide
    unfold sgn
    simp only [Int.zero_add] at *
    rcases Classical.propComplete ((j : Int) = at0) with e1 | e1 <;> rcases Classical.propComplete ((j : Int) = (at0 + 1) % size) with e2 | e2 <;> rcases Classical.propComplete (j = 0) with e3 | e3 <;>
      (
       simp only [zz, e1, e2, if_true, if_false, ite_true, ite_false] at i26 i36 ⊢
       simp [-Int.add_emod_emod, -Int.emod_add_emod, b_l_names_0, div_ok h64 h64', mul_l, m1, m2, m3, m4, mod_ok hs, mod_ok, div_ok, e1, e2, e3, i26, i36, mk_len, mk_app, t1, let_dig, let_len, dig_len, t36])
theorem mk_nil : ("" : Str) = mk [] := by decide +kernel
def nmk (c at0 : Int) (sz : Nat) (k : Nat) : Str := mk ((List.range sz).map fun (j : Nat) => sgn c at0 sz (0 + (k : Int)) (0 + (j : Int)))
theorem sg_let {a : Int} (h1 : 0 <= a) (h2 : a < 26) : sg a ∈ S36.take 26 := by
  obtain ⟨n, rfl⟩ : ∃ n : Nat, a = (n : Int) := ⟨a.toNat, by omega⟩
  have hn : n < 26 := by omega
  clear h1 h2
  have : ∀ n : Nat, n < 26 -> sg (n : Int) ∈ S36.take 26 := by decide
  exact this n hn
theorem nmk_name {c at0 : Int} {sz k : Nat} (h : 0 < sz) (h2 : sz <= 8) : NameOk (nmk c at0 sz k) := by
  match sz, h, h2 with
  | n + 1, _, h2 =>
    unfold nmk
    rw [List.range_succ_eq_map, List.map_cons]
    refine ⟨_, _, rfl, ?_, fun d hd => ?_, by simp; omega⟩
    · unfold sgn
      rw [if_pos (by rfl)]
      exact sg_let (by omega) (by omega)
    · obtain ⟨j, _, rfl⟩ := List.mem_map.mp hd
      exact sgn_mem ..
theorem names_out (c at0 : Int) (sz : Nat) (hs : 0 < sz) (hs2 : sz <= 8) (X1 : Option En) : ∀ (ks : List Nat) (acc : List Str) (a6 a7 a8 a9 : Option En), acc.length + ks.length <= 900 ->
    ∃ (b6 b7 b8 b9 : Option En),
      forD (.name 6) b_l_names_1 (ks.map fun (j : Nat) => D.int (0 + (j : Int))) [some (.val (.int c)), X1, some (.val (.str LET)), some (.val (.int sz)), some (.val (.int at0)), some (.acc (acc.map D.str)), a6, a7, a8, a9]
      = some (.next [some (.val (.int c)), X1, some (.val (.str LET)), some (.val (.int sz)), some (.val (.int at0)), some (.acc ((acc ++ ks.map (nmk c at0 sz)).map D.str)), b6, b7, b8, b9])
  | [], acc, a6, a7, a8, a9, _ => ⟨a6, a7, a8, a9, by simp⟩
  | k :: ks, acc, a6, a7, a8, a9, hl => by
    simp only [List.length_cons] at hl
    obtain ⟨b8, b9, p2⟩ := names_in c at0 sz (0 + (k : Int)) (by omega) X1 (some (.acc (acc.map D.str))) (List.range sz) [] a8 a9 (fun j hj => by have := List.mem_range.mp hj; omega) (by simp; omega) (by simp)
    obtain ⟨c6, c7, c8, c9, q3⟩ := names_out c at0 sz hs hs2 X1 ks (acc ++ [nmk c at0 sz k]) (some (.val (.int (0 + (k : Int))))) (some (.val (.str (nmk c at0 sz k)))) b8 b9 (by simp; omega)
    refine ⟨c6, c7, c8, c9, ?_⟩
    rw [show acc ++ (k :: ks).map (nmk c at0 sz) = (acc ++ [nmk c at0 sz k]) ++ ks.map (nmk c at0 sz) by simp, <- q3]
    have hB : -BIG <= (sz : Int) /\ (sz : Int) <= BIG := by unfold BIG; omega
    have hT : acc.length <= TOP := by simp [TOP]; omega
    rw [<- mk_nil, List.nil_append] at p2
    rw [show mk ((List.range sz).map fun (j : Nat) => sgn c at0 sz (0 + (k : Int)) (0 + (j : Int))) = nmk c at0 sz k from rfl] at p2
    simp [rngD_map, TOP] at p2
    simp [b_l_names_1, hB, rngD_map, TOP, p2, hT] at hT ⊢
    simp [p2, hT]
theorem mk_inj {l l' : List Nat} (h : mk l = mk l') : l = l' := by
  have := congrArg Str.cps h
  simpa [mk] using this
theorem map_range_eq {β : Type} {g g' : Nat -> β} {n : Nat} (h : (List.range n).map g = (List.range n).map g') : ∀ j < n, g j = g' j := by
  intro j hj
  have := congrArg (fun l => l[j]?) h
  simpa [hj] using this
theorem sg_zz {z a b : Int} (M : Int) (hM : M = 26 ∨ M = 36) (ha : 0 <= a) (ha2 : a < 26) (hb : 0 <= b) (hb2 : b < 26) (e : sg ((z + a) % M) = sg ((z + b) % M)) : a = b := by
  have := sg_inj (a := (z + a) % M) (b := (z + b) % M) (by rcases hM with rfl | rfl <;> omega) (by rcases hM with rfl | rfl <;> omega) (by rcases hM with rfl | rfl <;> omega) (by rcases hM with rfl | rfl <;> omega) e
  rcases hM with rfl | rfl <;> omega
theorem nmk_inj {c at0 : Int} {sz k k' many : Nat} (h0 : 0 <= at0) (h1 : at0 < sz) (hk : k < many) (hk' : k' < many) (hm : many <= 61) (hs : sz = 1 -> many <= 26) (e : nmk c at0 sz k = nmk c at0 sz k') : k = k' := by
  have key := map_range_eq (mk_inj e)
  simp only [Int.zero_add] at key
  have hsz : (0 : Int) < (sz : Int) := by omega
  have a1 := key at0.toNat (by omega)
  have e1 : ((at0.toNat : Nat) : Int) = at0 := by omega
  rw [e1] at a1
  by_cases h : sz = 1
  · have hm' := hs h
    have h2 : at0 = 0 := by omega
    subst h2
    unfold sgn zz at a1
    have e3 : ((0 : Int) + 1) % (sz : Int) = 0 := by rw [h]; rfl
    simp only [e3, if_true] at a1
    have q1 : (k : Int) / 26 = 0 := by omega
    have q2 : (k' : Int) / 26 = 0 := by omega
    rw [q1, q2, Int.add_zero, Int.add_zero] at a1
    have := sg_zz 26 (.inl rfl) (by omega) (by omega) (by omega) (by omega) a1
    omega
  · have hne : ¬ at0 = (at0 + 1) % (sz : Int) := by
      by_cases hc : at0 + 1 < sz
      · rw [Int.emod_eq_of_lt (by omega) hc]; omega
      · have : at0 + 1 = sz := by omega
        rw [this, Int.emod_self]; omega
    have hge : 0 <= (at0 + 1) % (sz : Int) := Int.emod_nonneg _ (by omega)
    have hlt : (at0 + 1) % (sz : Int) < sz := Int.emod_lt_of_pos _ hsz
    have a2 := key ((at0 + 1) % (sz : Int)).toNat (by omega)
    have e2 : ((((at0 + 1) % (sz : Int)).toNat : Nat) : Int) = (at0 + 1) % (sz : Int) := by omega
    rw [e2] at a2
    have hne' : ¬ (at0 + 1) % (sz : Int) = at0 := fun z => hne z.symm
    unfold sgn zz at a1 a2
    simp only [if_true, if_neg hne] at a1
    simp only [if_true, if_neg hne'] at a2
    have r1 : (k : Int) % 26 = (k' : Int) % 26 := by
      split at a1
      · exact sg_zz 26 (.inl rfl) (by omega) (by omega) (by omega) (by omega) a1
      · exact sg_zz 36 (.inr rfl) (by omega) (by omega) (by omega) (by omega) a1
    have r2 : (k : Int) / 26 = (k' : Int) / 26 := by
      split at a2
      · exact sg_zz 26 (.inl rfl) (by omega) (by omega) (by omega) (by omega) a2
      · exact sg_zz 36 (.inr rfl) (by omega) (by omega) (by omega) (by omega) a2
    omega
theorem nodup_range {α : Type} {g : Nat -> α} {n : Nat} (h : ∀ a b, a < n -> b < n -> g a = g b -> a = b) : ((List.range n).map g).Nodup := by
  have : ∀ l : List Nat, l.Nodup -> (∀ a ∈ l, a < n) -> (l.map g).Nodup := by
    intro l
    induction l with
    | nil => intro _ _; simp
    | cons a l ih =>
      intro nd hl
      have nd' := List.nodup_cons.mp nd
      rw [List.map_cons, List.nodup_cons]
      refine ⟨fun z => ?_, ih nd'.2 fun b hb => hl b (by simp [hb])⟩
      obtain ⟨b, hb, e⟩ := List.mem_map.mp z
      have := h b a (hl b (by simp [hb])) (hl a (by simp)) e
      subst this
      exact nd'.1 hb
  exact this _ List.nodup_range fun a ha => List.mem_range.mp ha
theorem e_l_names (c : Int) (many : Nat) (hm : many <= 61) : ∃ xs : List Str, (∀ x ∈ xs, NameOk x) /\ xs.Nodup /\ xs.length = many /\ m_l_names [.val (.int c), .val (.int many)] = some (.acc (xs.map D.str)) := by
  have hB : -BIG <= (many : Int) /\ (many : Int) <= BIG := by unfold BIG; omega
  obtain ⟨sz, hsz⟩ : ∃ sz : Nat, (if (many : Int) <= 26 then 1 + c % 8 else 2 + c % 7) = (sz : Int) /\ 0 < sz /\ sz <= 8 /\ (sz = 1 -> many <= 26) := by
    refine ⟨(if (many : Int) <= 26 then 1 + c % 8 else 2 + c % 7).toNat, ?_⟩
    split <;> omega
  obtain ⟨h1, h2, h3, h4⟩ := hsz
  have hz : (0 : Int) < (sz : Int) := by omega
  obtain ⟨b6, b7, b8, b9, p3⟩ := names_out c (c / 8 % (sz : Int)) sz h2 h3 (some (.val (.int many))) (List.range many) [] none none none none (by simp; omega)
  refine ⟨(List.range many).map (nmk c (c / 8 % (sz : Int)) sz), fun x hx => ?_, nodup_range fun a b ha hb e => nmk_inj (Int.emod_nonneg _ (by omega)) (Int.emod_lt_of_pos _ hz) ha hb hm h4 e, by simp, ?_⟩
  · obtain ⟨k, _, rfl⟩ := List.mem_map.mp hx
    exact nmk_name h2 h3
  · revert p3
    rw [List.nil_append]
    generalize (List.range many).map (nmk c (c / 8 % (sz : Int)) sz) = xs
    intro p3
    by_cases hq : (many : Int) <= 26
    · rw [if_pos hq] at h1
      simp only [m_l_names, mir, stE, N_l_names, g_l_names]
      have hq' : many <= 26 := by omega
      simp [hB, rngD_map, TOP, LET] at p3 ⊢
      simp [mod_ok, hq, h1, mod_ok hz, div_ok, hB, rngD_map, TOP, p3]
    · rw [if_neg hq] at h1
      have hq' : ¬ many <= 26 := by omega
      simp only [m_l_names, mir, stE, N_l_names, g_l_names]
      simp [hB, rngD_map, TOP, LET] at p3 ⊢
      simp [mod_ok, hq, h1, mod_ok hz, div_ok, hB, rngD_map, TOP, p3]
theorem top_small {n : Nat} (h : n <= 1000) : n <= TOP := Nat.le_trans h (by decide)
theorem lf_len : ("abcdefghijklmnopqrstuvwxyz" : Str).length + ("0123456789" : Str).length <= TOP := by decide +kernel
theorem comp_signs : ∀ (l : List Nat), (∀ d ∈ l, d ∈ S36) -> compD (.name 0) tYes e_is_name_0 [none] (l.map fun c => D.str (mk [c])) = some (l.map fun _ => D.bl true)
  | [], _ => by simp
  | c :: l, h => by
    have ih := comp_signs l fun d hd => h d (by simp [hd])
    have e := in_signs (h c (by simp))
    simp only [List.map_cons, ev_compS, ih]
    simp [e_is_name_0, lf_len, e]
theorem e_is_name {x : Str} (h : NameOk x) : m_is_name [.val (.str x)] = some (.val (.bl true)) := by
  obtain ⟨c, cs, rfl, h1, h2, h3⟩ := h
  have e1 := comp_signs (c :: cs) (fun d hd => by
    rcases List.mem_cons.mp hd with rfl | hd
    · exact List.mem_of_mem_take h1
    · exact h2 d hd)
  have e2 := asBs_true (c :: cs)
  have e3 := item_mk (l := c :: cs) (a := 0) (top_small (by simp only [List.length_cons]; omega)) (by omega) (by simp only [List.length_cons]; omega)
  have e3 : fItem (.str (mk (c :: cs))) (.int 0) = some (.str (mk [c])) := by simpa using e3
  have e4 := in_letters h1
  have l1 : fLen [.str (mk (c :: cs))] = some (.int ((cs.length + 1 : Nat) : Int)) := by
    show (if (mk (c :: cs)).length <= TOP then some (D.int (mk (c :: cs)).length) else none) = _
    rw [mk_len, if_pos (top_small (by simp; omega))]; rfl
  have l2 : (1 : Int) <= ((cs.length + 1 : Nat) : Int) := by omega
  have l3 : ((cs.length + 1 : Nat) : Int) <= 8 := by omega
  have l4 : cs.length + 1 <= TOP := top_small (by omega)
  have ss : subT "str" "str" = some true := by decide
  rw [<- ch_mk] at e1
  generalize hz : mk (c :: cs) = z at *
  have lch : (chD z).length = cs.length + 1 := by rw [<- hz, ch_mk]; simp
  simp only [List.map_cons] at e1 e2
  have ha : asBs (D.bl true :: cs.map fun _ => D.bl true) = some (true :: cs.map fun _ => true) := e2
  have l5 : (1 : Int) <= (cs.length : Int) + 1 := by omega
  have l6 : (cs.length : Int) + 1 <= 8 := by omega
  simp [m_is_name, mir, stE, N_is_name, g_is_name, ss, l1, e3, e4, lch, l4, l5, l6, e1, ha]
theorem eq_str {neg : Bool} {x y : Str} (hx : Ok x) (hy : Ok y) : fEq neg (.str x) (.str y) = some (.bl (if neg then !decide (x = y) else decide (x = y))) :=
  fEq_of (lay_str hx) (lay_str hy) (by decide) (by decide) (eqv_str x y)
end My
namespace My
open PySem PySem.Spec L2 L3 L4 Dv HM QM
open PyProof.Rows hiding St
open QX (dg dg_dig dg_ne dg_len dg_head dg_zero joinL)
abbrev RN := Int × List Str
theorem ml_mk (l : List Nat) : QX.ml l = mk l := rfl
theorem list_mk (l : List Nat) : (mk l).cps.toList = l := by simp [mk]
theorem of_list {x : Str} {l : List Nat} (h : x.cps.toList = l) : x = mk l := QX.ml_eq h
theorem empty_mk : Str.empty = mk [] := by decide +kernel
theorem colon_mk : (":" : Str) = mk [58] := by decide +kernel
theorem sp_mk : (" " : Str) = mk [32] := by decide +kernel
theorem none_mk : ("" : Str) = mk [] := by decide +kernel
theorem zero_mk : ("0" : Str) = mk [48] := by decide +kernel
theorem dash_mk : ("-" : Str) = mk [45] := by decide +kernel
theorem semi_mk : ("; " : Str) = mk [59, 32] := by decide +kernel
theorem comma_mk : (", " : Str) = mk [44, 32] := by decide +kernel
theorem num_mk (m : Nat) : numT (m : Int) = mk (dg m) := of_list (PySem.W.KIN.signs_num m)
theorem ok_low {l : List Nat} (h : ∀ d ∈ l, d < 128) : Ok (mk l) := by
  show (mk l).cps.all (· < 0x110000) = true
  rw [Array.all_eq_true']
  intro c hc
  have hc : c ∈ l := by simpa [mk] using hc
  have := h c hc
  simp; omega
theorem dg_low (m : Nat) : ∀ d ∈ dg m, d < 128 := fun d hd => by have := dg_dig m d hd; omega
theorem s36_low : ∀ d ∈ S36, (48 <= d /\ d <= 57) ∨ (97 <= d /\ d <= 122) := by decide
theorem name_list {x : Str} (h : NameOk x) : ∃ l : List Nat, x = mk l /\ l ≠ [] /\ l.length <= 8 /\ (∀ d ∈ l, (48 <= d /\ d <= 57) ∨ (97 <= d /\ d <= 122)) /\ ∃ c, l.head? = some c /\ 97 <= c := by
  obtain ⟨c, cs, rfl, h1, h2, h3⟩ := h
  have hc : ∀ d ∈ S36.take 26, 97 <= d := by decide
  refine ⟨c :: cs, rfl, by simp, by simp; omega, fun d hd => ?_, c, rfl, hc c h1⟩
  rcases List.mem_cons.mp hd with rfl | hd
  · exact s36_low _ (List.mem_of_mem_take h1)
  · exact s36_low _ (h2 d hd)
theorem in_figs {c : Nat} (h : 48 <= c /\ c <= 57) : (Builtin.Str.occurrences ("0123456789" : Str) (mk [c]) 0 ("0123456789" : Str).length 1).isEmpty = false := by
  have all : ∀ c ∈ ([48, 49, 50, 51, 52, 53, 54, 55, 56, 57] : List Nat), (Builtin.Str.occurrences ("0123456789" : Str) (mk [c]) 0 ("0123456789" : Str).length 1).isEmpty = false := by decide +kernel
  refine all c ?_
  have : c = 48 ∨ c = 49 ∨ c = 50 ∨ c = 51 ∨ c = 52 ∨ c = 53 ∨ c = 54 ∨ c = 55 ∨ c = 56 ∨ c = 57 := by omega
  simpa using this
theorem comp_figs : ∀ (l : List Nat), (∀ d ∈ l, 48 <= d /\ d <= 57) -> compD (.name 0) tYes e_number_in_0 [none] (l.map fun c => D.str (mk [c])) = some (l.map fun _ => D.bl true)
  | [], _ => by simp
  | c :: l, h => by
    have ih := comp_figs l fun d hd => h d (by simp [hd])
    have e := in_figs (h c (by simp))
    have tl : ("0123456789" : Str).length <= TOP := by decide +kernel
    simp only [List.map_cons, ev_compS, ih]
    simp [e_number_in_0, tl, e]
theorem read_num {m : Nat} (h : m < 1000000) : fIntT [.str (mk (dg m))] = some (.int m) := by
  have hl : (mk (dg m)).length <= 640 := by
    rw [mk_len]
    have := dg_len 5 m (by simpa using h)
    omega
  have e := PySem.W.KIN.num_reads (n := (m : Int)) (by omega) (by omega)
  have e : intText? (mk (dg m)) = some (m : Int) := by rw [<- num_mk]; exact e
  show (if (mk (dg m)).length <= 640 then (intText? (mk (dg m))).map D.int else none) = _
  rw [if_pos hl, e]; rfl
theorem e_number_in {m : Nat} (h : m < 1000000) : m_number_in [.val (.str (mk (dg m)))] = some (.val (.int m)) := by
  have hr := read_num h
  have hlen := dg_len 5 m (by simpa using h)
  have hd := dg_dig m
  have hh := @dg_head m
  have hz := dg_zero
  have hok : Ok (mk (dg m)) := ok_low (dg_low m)
  cases q : dg m with
  | nil => exact (dg_ne m q).elim
  | cons c cs =>
    rw [q] at hr hlen hd hh hok
    have e1 := comp_figs (c :: cs) hd
    have e2 := asBs_true (c :: cs)
    have hc3 : cs.length <= 5 := by simpa using hlen
    have e3 := item_mk (l := c :: cs) (a := 0) (top_small (by simp only [List.length_cons]; omega)) (by omega) (by simp only [List.length_cons]; omega)
    have e3 : fItem (.str (mk (c :: cs))) (.int 0) = some (.str (mk [c])) := by simpa using e3
    have l1 : fLen [.str (mk (c :: cs))] = some (.int ((cs.length + 1 : Nat) : Int)) := by
      show (if (mk (c :: cs)).length <= TOP then some (D.int (mk (c :: cs)).length) else none) = _
      rw [mk_len, if_pos (top_small (by simp; omega))]; rfl
    have l4 : cs.length + 1 <= TOP := top_small (by omega)
    have q0 : fEq false (.str (mk [c])) (.str "0") = some (.bl (decide (mk [c] = "0"))) := by
      have := eq_str (neg := false) (x := mk [c]) (y := "0") (ok_low (by simp; have := hd c (by simp); omega)) (by rw [zero_mk]; exact ok_low (by simp))
      simpa using this
    have q1 : fEq true (.str (mk (c :: cs))) (.str "0") = some (.bl (!decide (mk (c :: cs) = "0"))) := by
      have := eq_str (neg := true) (x := mk (c :: cs)) (y := "0") hok (by rw [zero_mk]; exact ok_low (by simp))
      simpa using this
    have q2 : mk [c] = "0" -> mk (c :: cs) = "0" := fun z => by
      rw [zero_mk] at z
      have z := mk_inj z
      have hc : c = 48 := by simpa using z
      have hm := hh (by simp [hc])
      subst hm
      rw [q] at hz
      rw [zero_mk, hz]
    rw [<- ch_mk] at e1
    generalize hw : mk (c :: cs) = z at *
    have lch : (chD z).length = cs.length + 1 := by rw [<- hw, ch_mk]; simp
    simp only [List.map_cons] at e1 e2
    have ha : asBs (D.bl true :: cs.map fun _ => D.bl true) = some (true :: cs.map fun _ => true) := e2
    have l5 : (1 : Int) <= (cs.length : Int) + 1 := by omega
    have l6 : (cs.length : Int) + 1 <= 6 := by omega
    by_cases hc : mk [c] = "0"
    · rw [decide_eq_true hc] at q0
      rw [decide_eq_true (q2 hc), Bool.not_true] at q1
      simp [m_number_in, mir, stE, N_number_in, g_number_in, l1, e3, lch, l4, l5, l6, e1, ha, q0, q1, hr]
    · rw [decide_eq_false hc] at q0
      simp [m_number_in, mir, stE, N_number_in, g_number_in, l1, e3, lch, l4, l5, l6, e1, ha, q0, hr]
theorem e_name_in {x : Str} (h : NameOk x) : m_name_in [.val (.str x)] = some (.val (.str x)) := by
  have e := e_is_name h
  simp [m_name_in, mir, stE, N_name_in, g_name_in, e]
def nmL (x : Str) : List Nat := x.cps.toList
theorem nmL_mk (x : Str) : mk (nmL x) = x := (of_list rfl).symm
def rowL (r : RN) : List Nat := dg r.1.toNat ++ [58] ++ (r.2.map fun x => 32 :: nmL x).flatten
structure RowOk (r : RN) : Prop where
  lo : 0 <= r.1
  hi : r.1 < 1000000
  nam : ∀ x ∈ r.2, NameOk x
  few : r.2.length <= 5
theorem nmL_len {x : Str} (h : NameOk x) : (nmL x).length <= 8 := by
  obtain ⟨l, rfl, _, h, _⟩ := name_list h
  unfold nmL; rw [list_mk]; exact h
theorem nmL_sg {x : Str} (h : NameOk x) : ∀ d ∈ nmL x, (48 <= d /\ d <= 57) ∨ (97 <= d /\ d <= 122) := by
  obtain ⟨l, rfl, _, _, h, _⟩ := name_list h
  unfold nmL; rw [list_mk]; exact h
theorem RowOk.sg {r : RN} (h : RowOk r) : ∀ d ∈ rowL r, d = 58 ∨ d = 32 ∨ (48 <= d /\ d <= 57) ∨ (97 <= d /\ d <= 122) := fun d hd => by
  unfold rowL at hd
  rcases List.mem_append.mp hd with hd | hd
  · rcases List.mem_append.mp hd with hd | hd
    · exact .inr (.inr (.inl (dg_dig _ d hd)))
    · exact .inl (List.mem_singleton.mp hd)
  · obtain ⟨l, hl, hd⟩ := List.mem_flatten.mp hd
    obtain ⟨x, hx, rfl⟩ := List.mem_map.mp hl
    rcases List.mem_cons.mp hd with rfl | hd
    · exact .inr (.inl rfl)
    · rcases nmL_sg (h.nam x hx) d hd with z | z
      · exact .inr (.inr (.inl z))
      · exact .inr (.inr (.inr z))
theorem flat_len {ls : List (List Nat)} {b : Nat} (h : ∀ l ∈ ls, l.length <= b) : ls.flatten.length <= ls.length * b := by
  induction ls with
  | nil => simp
  | cons l ls ih =>
    have h1 := h l (by simp)
    have h2 := ih fun m hm => h m (by simp [hm])
    simp only [List.flatten_cons, List.length_append, List.length_cons]
    rw [Nat.add_mul, Nat.one_mul]; omega
theorem sum_mk (ls : List (List Nat)) : ((ls.map mk).map (·.length)).sum = ls.flatten.length := by
  induction ls with
  | nil => rfl
  | cons l ls ih => simp only [List.map_cons, List.sum_cons, List.flatten_cons, List.length_append, ih, mk_len]
theorem RowOk.len {r : RN} (h : RowOk r) : (rowL r).length <= 60 := by
  have h1 := dg_len 5 r.1.toNat (by have := h.hi; have := h.lo; omega)
  have h2 := flat_len (ls := r.2.map fun x => 32 :: nmL x) (b := 9) fun l hl => by
    obtain ⟨x, hx, rfl⟩ := List.mem_map.mp hl
    have := nmL_len (h.nam x hx)
    simp; omega
  have h3 := h.few
  rw [List.length_map] at h2
  unfold rowL
  simp only [List.length_append, List.length_singleton]
  omega
theorem few_of {m : Nat} (h : m < 1000000) : ((m : Int)).natAbs < FEW := by unfold FEW; omega
theorem comp_sp : ∀ ns : List Str, (∀ x ∈ ns, NameOk x) -> compD (.name 0) tYes e_row_text_0 [none] (ns.map D.str) = some (((ns.map fun x => 32 :: nmL x).map mk).map D.str)
  | [], _ => by simp
  | x :: ns, h => by
    have ih := comp_sp ns fun y hy => h y (by simp [hy])
    have hl := nmL_len (h x (by simp))
    have e : (" " : Str) ++ (x ++ Str.empty) = mk (32 :: nmL x) := by
      have := nmL_mk x
      rw [sp_mk, empty_mk]
      conv => lhs; rw [<- this]
      rw [mk_app, mk_app]; simp
    have hT : (mk (32 :: nmL x)).length <= TOP := by rw [mk_len]; exact top_small (by simp; omega)
    simp only [List.map_cons, ev_compS, ih]
    simp [e_row_text_0, e, hT]
theorem e_row_text {r : RN} (h : RowOk r) : m_row_text [.val (.int r.1), .val (.lst (r.2.map D.str))] = some (.val (.str (mk (rowL r)))) := by
  have c := comp_sp r.2 h.nam
  obtain ⟨m, hm⟩ : ∃ m : Nat, r.1 = (m : Int) := ⟨r.1.toNat, by have := h.lo; omega⟩
  have hm6 : m < 1000000 := by have := h.hi; omega
  have hf := few_of hm6
  have hf2 : m < FEW := by unfold FEW; omega
  have e0 : numT (m : Int) ++ ((":" : Str) ++ Str.empty) = mk (dg m ++ [58]) := by rw [num_mk, colon_mk, empty_mk, mk_app, mk_app]; simp
  have hd := dg_len 5 m (by simpa using hm6)
  have hT : (mk (dg m ++ [58])).length <= TOP := by rw [mk_len]; exact top_small (by simp; omega)
  have hj : Txt.join "" (((dg m ++ [58]) :: r.2.map fun x => 32 :: nmL x).map mk) = mk (rowL r) := by
    rw [join_mk]; unfold rowL; rw [hm]; simp
  have hlen := h.len
  have hs := sum_mk ((dg m ++ [58]) :: r.2.map fun x => 32 :: nmL x)
  have hfl : ((dg m ++ [58]) :: r.2.map fun x => 32 :: nmL x).flatten = rowL r := by unfold rowL; rw [hm]; simp
  rw [hfl] at hs
  have ha := asSs_map ((((dg m ++ [58]) :: r.2.map fun x => 32 :: nmL x)).map mk)
  have z0 : ("" : Str).length = 0 := by decide +kernel
  have t1 : 1 <= TOP := by decide
  have hfew := h.few
  have hT2 : 1 + r.2.length <= TOP := top_small (by omega)
  have hT3 : r.2.length <= TOP := top_small (by omega)
  have hT4 : (rowL r).length <= TOP := top_small (by omega)
  generalize hW : (r.2.map fun x => 32 :: nmL x).map mk = WW at *
  simp only [List.map_cons, hW, List.sum_cons] at hj hs ha
  have hwl : WW.length = r.2.length := by rw [<- hW]; simp
  have hnl : (r.2.map D.str).length = r.2.length := by simp
  simp only [m_row_text, mir, stE, N_row_text, g_row_text, hm]
  simp [hf2, e0, hT, t1, hnl, hT3, c, hwl, hT2, ha, hs, z0, hT4, hj]
def rnT (r : Int × List Str) : OT := .tup [.frz (.int r.1), .lst (lfs (r.2.map D.str))]
def rowsT (rows : List (Int × List Str)) : OT := .lst (rows.map rnT)
theorem erases_lfs : ∀ ds : List D, erases (lfs ds) = ds
  | [] => rfl
  | d :: ds => by show (OT.frz d).erase :: erases (lfs ds) = _; rw [erases_lfs ds]; rfl
theorem erase_rn (r : Int × List Str) : (rnT r).erase = rnD r := by
  show D.tup [.int r.1, .lst (erases (lfs (r.2.map D.str)))] = _
  rw [erases_lfs]; rfl
theorem erases_rows : ∀ rows : List (Int × List Str), erases (rows.map rnT) = rows.map rnD
  | [] => rfl
  | r :: rows => by show (rnT r).erase :: erases (rows.map rnT) = _; rw [erases_rows rows, erase_rn]; rfl
theorem erase_rows (rows : List (Int × List Str)) : (rowsT rows).erase = .lst (rows.map rnD) := by
  show D.lst (erases (rows.map rnT)) = _
  rw [erases_rows]
theorem leaf_lfs {ds : List D} : OT.leaf (.lst (lfs ds)) = some ds := unLfs_lfs ds
theorem join_any (sep : List Nat) (ls : List (List Nat)) : Txt.join (mk sep) (ls.map mk) = mk (joinL sep ls) := by
  show Builtin.Str.glued (mk sep) (ls.map mk) = _
  rw [StrLaws.glued_eq_join]
  exact QX.join_ml sep ls
def textX (sep : List Nat) (ls : List (List Nat)) : List Nat := match ls with
  | [] => [45]
  | _ => joinL sep ls
theorem join_len (sep : List Nat) : ∀ ls : List (List Nat), (joinL sep ls).length <= ls.flatten.length + ls.length * sep.length
  | [] => by simp [joinL]
  | [p] => by simp [joinL]
  | p :: q :: ps => by
    have ih := join_len sep (q :: ps)
    show (p ++ sep ++ joinL sep (q :: ps)).length <= _
    simp only [List.length_append, List.flatten_cons, List.length_cons] at ih ⊢
    rw [Nat.succ_mul (ps.length + 1) sep.length]
    omega
theorem e_parted {ls : List (List Nat)} {sep : List Nat} (h : ls.flatten.length + ls.length * sep.length <= TOP) : m_parted [.val (.lst ((ls.map mk).map D.str)), .val (.str (mk sep))] = some (.val (.str (mk (textX sep ls)))) := by
  have ha := asSs_map (ls.map mk)
  have hs := sum_mk ls
  have hj := join_any sep ls
  have hl : (ls.map mk).length = ls.length := List.length_map _
  have hk : (mk sep).length = sep.length := mk_len _
  cases ls with
  | nil => simp [m_parted, mir, stE, N_parted, g_parted, textX, dash_mk]
  | cons p ps =>
    have ht : textX sep (p :: ps) = joinL sep (p :: ps) := rfl
    rw [ht, <- hj]
    generalize hZ : (p :: ps).map mk = ZZ at *
    have hne : (ZZ.map D.str).isEmpty = false := by rw [<- hZ]; rfl
    have hne2 : ZZ ≠ [] := by rw [<- hZ]; simp
    generalize (p :: ps).flatten.length = NN at *
    generalize (p :: ps).length = MM at *
    simp [m_parted, mir, stE, N_parted, g_parted, ha, hs, hl, hk, h, hne, hne2]
theorem rows_len {rs : List RN} (h : ∀ r ∈ rs, RowOk r) : (rs.map rowL).flatten.length <= rs.length * 60 := by
  have := flat_len (ls := rs.map rowL) (b := 60) fun l hl => by
    obtain ⟨r, hr, rfl⟩ := List.mem_map.mp hl
    exact (h r hr).len
  rwa [List.length_map] at this
theorem comp_rt : ∀ rs : List RN, (∀ r ∈ rs, RowOk r) -> compD (.tup [0, 1]) tYes e_rows_text_0 [none, none] (rs.map rnD) = some (((rs.map rowL).map mk).map D.str)
  | [], _ => by simp
  | r :: rs, h => by
    have ih := comp_rt rs fun u hu => h u (by simp [hu])
    have e := e_row_text (h r (by simp))
    simp only [List.map_cons, ev_compS, ih]
    simp [rnD, asgD, setMany, e_rows_text_0, e]
theorem top_of {n : Nat} (h : n <= 5000) : n <= TOP := Nat.le_trans h (by decide)
theorem e_rows_text {rs : List RN} (h : ∀ r ∈ rs, RowOk r) (hl : rs.length <= 61) : m_rows_text [.val (.lst (rs.map rnD))] = some (.val (.str (mk (textX [59, 32] (rs.map rowL))))) := by
  have c := comp_rt rs h
  have h1 := rows_len h
  have e := e_parted (ls := rs.map rowL) (sep := [59, 32]) (top_of (by rw [List.length_map]; show _ + rs.length * 2 <= 5000; omega))
  rw [<- semi_mk] at e
  have hT : (rs.map rnD).length <= TOP := by rw [List.length_map]; exact top_of (by omega)
  generalize ((rs.map rowL).map mk).map D.str = ZZ at *
  generalize rs.map rnD = RR at *
  simp [m_rows_text, mir, stE, N_rows_text, g_rows_text, hT, c, e]
theorem rt_in (X0 X1 X2 X3 : Option En) : ∀ (ns : List Str) (l : List Nat) (a : Option En), (∀ x ∈ ns, NameOk x) -> l.length + 9 * ns.length <= 4000 -> ∃ a' : Option En,
    forD (.name 5) b_l_rows_text_0 (ns.map D.str) [X0, X1, X2, X3, some (.val (.str (mk l))), a] = some (.next [X0, X1, X2, X3, some (.val (.str (mk (l ++ (ns.map fun x => 32 :: nmL x).flatten)))), a'])
  | [], l, a, _, _ => ⟨a, by simp⟩
  | x :: ns, l, a, h, hl => by
    simp only [List.length_cons] at hl
    have hx := nmL_len (h x (by simp))
    obtain ⟨a', p⟩ := rt_in X0 X1 X2 X3 ns (l ++ 32 :: nmL x) (some (.val (.str x))) (fun y hy => h y (by simp [hy])) (by simp; omega)
    refine ⟨a', ?_⟩
    have e : l ++ ((x :: ns).map fun x => 32 :: nmL x).flatten = (l ++ 32 :: nmL x) ++ (ns.map fun x => 32 :: nmL x).flatten := by simp
    rw [e, <- p]
    have e1 : mk l ++ (" " : Str) = mk (l ++ [32]) := by rw [sp_mk, mk_app]
    have e2 : mk (l ++ [32]) ++ x = mk (l ++ 32 :: nmL x) := by
      conv => lhs; rw [<- nmL_mk x]
      rw [mk_app]; simp
    have l1 : (mk l).length + (" " : Str).length <= TOP := by rw [sp_mk, mk_len, mk_len]; exact top_of (by simp; omega)
    have l2 : (mk (l ++ [32])).length + x.length <= TOP := by
      have : x.length = (nmL x).length := by conv => lhs; rw [<- nmL_mk x]
                                             rw [mk_len]
      rw [mk_len, this]; exact top_of (by simp; omega)
    simp [b_l_rows_text_0, asgD, e1, e2, l1, l2]
theorem rt_out (X0 : Option En) : ∀ (rs acc : List RN) (a2 a3 a4 a5 : Option En), (∀ r ∈ rs, RowOk r) -> acc.length + rs.length <= 1000 -> ∃ b2 b3 b4 b5 : Option En,
    forD (.tup [2, 3]) b_l_rows_text_1 (rs.map rnD) [X0, some (.acc (((acc.map rowL).map mk).map D.str)), a2, a3, a4, a5] = some (.next [X0, some (.acc ((((acc ++ rs).map rowL).map mk).map D.str)), b2, b3, b4, b5])
  | [], acc, a2, a3, a4, a5, _, _ => ⟨a2, a3, a4, a5, by simp⟩
  | r :: rs, acc, a2, a3, a4, a5, h, hl => by
    simp only [List.length_cons] at hl
    have hr := h r (by simp)
    obtain ⟨m, hm⟩ : ∃ m : Nat, r.1 = (m : Int) := ⟨r.1.toNat, by have := hr.lo; omega⟩
    have hm6 : m < 1000000 := by have := hr.hi; omega
    have hf2 : m < FEW := by unfold FEW; omega
    have hd := dg_len 5 m (by simpa using hm6)
    have hfew := hr.few
    obtain ⟨c5, p1⟩ := rt_in X0 (some (.acc (((acc.map rowL).map mk).map D.str))) (some (.val (.int r.1))) (some (.val (.lst (r.2.map D.str)))) r.2 (dg m ++ [58]) a5 hr.nam (by simp; omega)
    have er : dg m ++ [58] ++ (r.2.map fun x => 32 :: nmL x).flatten = rowL r := by unfold rowL; rw [hm]; simp
    rw [er] at p1
    obtain ⟨b2, b3, b4, b5, p⟩ := rt_out X0 rs (acc ++ [r]) (some (.val (.int r.1))) (some (.val (.lst (r.2.map D.str)))) (some (.val (.str (mk (rowL r))))) c5 (fun u hu => h u (by simp [hu])) (by simp; omega)
    refine ⟨b2, b3, b4, b5, ?_⟩
    have ea : acc ++ r :: rs = acc ++ [r] ++ rs := by simp
    rw [ea, <- p]
    have e1 : numT (m : Int) ++ (":" : Str) = mk (dg m ++ [58]) := by rw [num_mk, colon_mk, mk_app]
    have l1 : (numT (m : Int)).length + (":" : Str).length <= TOP := by rw [num_mk, colon_mk, mk_len, mk_len]; exact top_of (by simp; omega)
    have hT : acc.length <= TOP := top_of (by omega)
    simp only [hm] at p1 ⊢
    simp [b_l_rows_text_1, rnD, asgD, setMany, hm, hf2, e1, l1] at p1 ⊢
    simp [p1, hT]
theorem e_l_rows_text {rs : List RN} (h : ∀ r ∈ rs, RowOk r) (hl : rs.length <= 61) : m_l_rows_text [.val (.lst (rs.map rnD))] = some (.val (.str (mk (textX [59, 32] (rs.map rowL))))) := by
  obtain ⟨b2, b3, b4, b5, p⟩ := rt_out (some (.val (.lst (rs.map rnD)))) rs [] none none none none h (by simp; omega)
  have h1 := rows_len h
  have hok : ∀ x ∈ (rs.map rowL).map mk, Ok x := fun x hx => by
    obtain ⟨l, hl, rfl⟩ := List.mem_map.mp hx
    obtain ⟨r, hr, rfl⟩ := List.mem_map.mp hl
    exact ok_low fun d hd => by have := (h r hr).sg d hd; omega
  have e0 := eq_strs0 (neg := false) hok
  have ha := asSs_map ((rs.map rowL).map mk)
  have hs := sum_mk (rs.map rowL)
  have hj := join_any [59, 32] (rs.map rowL)
  rw [<- semi_mk] at hj
  have hk : ("; " : Str).length = 2 := by rw [semi_mk, mk_len]; rfl
  have hT : (rs.map rowL).flatten.length + rs.length * 2 <= TOP := top_of (by omega)
  simp only [List.nil_append, List.map_nil] at p
  cases rs with
  | nil =>
    simp at p e0
    simp [m_l_rows_text, mir, stE, N_l_rows_text, g_l_rows_text, p, e0, textX, dash_mk]
  | cons r rs =>
    have ht : textX [59, 32] ((r :: rs).map rowL) = joinL [59, 32] ((r :: rs).map rowL) := rfl
    rw [ht, <- hj]
    have hl2 : (((r :: rs).map rowL).map mk).length = (r :: rs).length := by simp
    have hne : ((r :: rs).map rowL).map mk ≠ [] := by simp
    generalize ((r :: rs).map rowL).map mk = ZZ at *
    simp only [hne, decide_false, Bool.false_eq_true, if_false] at e0
    generalize (r :: rs).map rnD = RR at *
    generalize ((r :: rs).map rowL).flatten.length = NN at *
    generalize (r :: rs).length = MM at *
    simp [m_l_rows_text, mir, stE, N_l_rows_text, g_l_rows_text, p, e0, ha, hs, hl2, hk, hT]
theorem join_flat (c : Nat) : ∀ (ps : List (List Nat)) (p : List Nat), joinL [c] (p :: ps) = p ++ (ps.map fun l => c :: l).flatten
  | [], p => by simp [joinL]
  | q :: ps, p => by
    show p ++ [c] ++ joinL [c] (q :: ps) = _
    rw [join_flat c ps q]; simp
theorem split_words {ls : List (List Nat)} (h : ∀ l ∈ ls, 32 ∉ l) : Txt.split (mk ((ls.map fun l => 32 :: l).flatten)) (" " : Str) = mk [] :: ls.map mk := by
  have := QX.split_join (c := 32) (cs := []) (by simp) (by simp) (ps := [] :: ls) (by simp) (fun p hp => by
    rcases List.mem_cons.mp hp with rfl | hp
    · simp
    · exact h p hp)
  rw [join_flat] at this
  rw [sp_mk]
  exact this
theorem comp_ni : ∀ ns : List Str, (∀ x ∈ ns, NameOk x) -> compD (.name 0) tYes e_row_in_0 [none] (ns.map D.str) = some (ns.map D.str)
  | [], _ => by simp
  | x :: ns, h => by
    have ih := comp_ni ns fun y hy => h y (by simp [hy])
    have e := e_name_in (h x (by simp))
    simp only [List.map_cons, ev_compS, ih]
    simp [e_row_in_0, e]
theorem no32 {x : Str} (h : NameOk x) : 32 ∉ nmL x := fun z => by have := nmL_sg h 32 z; omega
theorem names_back (ns : List Str) : (ns.map nmL).map mk = ns := by
  rw [List.map_map]
  conv => rhs; rw [<- List.map_id ns]
  apply List.map_congr_left
  intro x _
  exact nmL_mk x
theorem e_row_in {r : RN} (h : RowOk r) : m_row_in [.val (.str (mk (rowL r)))] = some (.tre (rnT r)) := by
  obtain ⟨m, hm⟩ : ∃ m : Nat, r.1 = (m : Int) := ⟨r.1.toNat, by have := h.lo; omega⟩
  have hm6 : m < 1000000 := by have := h.hi; omega
  have en := e_number_in hm6
  have hmt : r.1.toNat = m := by omega
  have hp : Txt.partition (mk (rowL r)) (":" : Str) = (mk (dg m), mk [58], mk ((r.2.map fun x => 32 :: nmL x).flatten)) := by
    rw [colon_mk]
    unfold rowL
    rw [hmt]
    exact QX.part_first (c := 58) (dg m) _ fun z => by have := dg_dig m 58 z; omega
  have hp3 : part3 (mk (rowL r)) (":" : Str) = [mk (dg m), mk [58], mk ((r.2.map fun x => 32 :: nmL x).flatten)] := by unfold part3; rw [hp]
  have hw := split_words (ls := r.2.map nmL) fun l hl => by obtain ⟨x, hx, rfl⟩ := List.mem_map.mp hl; exact no32 (h.nam x hx)
  rw [names_back, List.map_map] at hw
  have hw : Txt.split (mk ((r.2.map fun x => 32 :: nmL x).flatten)) (" " : Str) = mk [] :: r.2 := hw
  have c1 : ((":" : Str).length == 0) = false := by decide +kernel
  have c2 : ((" " : Str).length == 0) = false := by decide +kernel
  have hlen := h.len
  have hlr : (mk (rowL r)).length <= TOP := by rw [mk_len]; exact top_of (by omega)
  have hlw : (mk ((r.2.map fun x => 32 :: nmL x).flatten)).length + 2 <= TOP := by
    rw [mk_len]
    have : ((r.2.map fun x => 32 :: nmL x).flatten).length <= (rowL r).length := by unfold rowL; simp only [List.length_append]; omega
    exact top_of (by omega)
  have q0 : fEq false (.str (mk [58])) (.str "") = some (.bl false) := by
    have := eq_str (neg := false) (x := mk [58]) (y := "") (ok_low (by simp)) (by rw [none_mk]; exact ok_low (by simp))
    rw [this]
    have : ¬ mk [58] = "" := by rw [none_mk]; intro z; have := mk_inj z; simp at this
    simp [this]
  have q1 : fEq true (.str (mk [])) (.str "") = some (.bl false) := by
    have := eq_str (neg := true) (x := mk []) (y := "") (ok_low (by simp)) (by rw [none_mk]; exact ok_low (by simp))
    rw [this, none_mk]; simp
  have hfew := h.few
  have hT : (r.2.map D.str).length <= TOP := by rw [List.length_map]; exact top_of (by omega)
  have hT1 : (r.2.map D.str).length + 1 <= TOP := by rw [List.length_map]; exact top_of (by omega)
  have c := comp_ni r.2 h.nam
  have hcut : cutD (D.str (mk []) :: r.2.map D.str) (some 1) none = r.2.map D.str := by rw [cut_lo (by omega)]; rfl
  have ht2 : 2 <= TOP := by decide
  have hrn : rnT r = .tup [.frz (.int (m : Int)), .lst (lfs (r.2.map D.str))] := by unfold rnT; rw [hm]
  rw [hrn]
  generalize mk ((r.2.map fun x => 32 :: nmL x).flatten) = WX at *
  generalize mk (rowL r) = RX at *
  simp only [m_row_in, mir, stE, N_row_in, g_row_in]
  generalize hNS : r.2.map D.str = NS at *
  have hwD : (Txt.split WX (" " : Str)).map D.str = D.str (mk []) :: NS := by rw [hw, List.map_cons, hNS]
  simp [c1, c2, hlr, hp3, hlw, hwD, q0, q1, en, hcut, hT, hT1, c, ht2]
theorem compT_rows : ∀ rs : List RN, (∀ r ∈ rs, RowOk r) -> compT (.name 0) tYes (gCall (len? 1 m_row_in) treO (nCons (gn 0) nNil)) [none] (((rs.map rowL).map mk).map D.str) = some (rs.map rnT)
  | [], _ => by simp
  | r :: rs, h => by
    have ih := compT_rows rs fun u hu => h u (by simp [hu])
    have e := e_row_in (h r (by simp))
    simp only [List.map_cons, ev_compTS, ih]
    simp [e]
theorem e_rows_in {rs : List RN} (h : ∀ r ∈ rs, RowOk r) (hl : rs.length <= 61) : m_rows_in [.val (.str (mk (textX [59, 32] (rs.map rowL))))] = some (.tre (rowsT rs)) := by
  cases rs with
  | nil =>
    have q0 : fEq false (.str "-") (.str "-") = some (.bl true) := by
      have := eq_str (neg := false) (x := "-") (y := "-") (by rw [dash_mk]; exact ok_low (by simp)) (by rw [dash_mk]; exact ok_low (by simp))
      rw [this]; simp
    have l0 : (lfs [] : List OT) = [] := rfl
    have ht : textX [59, 32] (([] : List RN).map rowL) = [45] := rfl
    rw [ht, <- dash_mk]
    simp [m_rows_in, mir, stE, N_rows_in, g_rows_in, q0, l0, rowsT]
  | cons r rs =>
    have ht : textX [59, 32] ((r :: rs).map rowL) = joinL [59, 32] ((r :: rs).map rowL) := rfl
    rw [ht]
    have hno : ∀ p ∈ (r :: rs).map rowL, 59 ∉ p := fun p hp z => by
      obtain ⟨u, hu, rfl⟩ := List.mem_map.mp hp
      have := (h u hu).sg 59 z
      omega
    have hsp := QX.split_join (c := 59) (cs := [32]) (by simp) (by simp) (ps := (r :: rs).map rowL) (by simp) hno
    have hsp : Txt.split (mk (joinL [59, 32] ((r :: rs).map rowL))) ("; " : Str) = ((r :: rs).map rowL).map mk := by rw [semi_mk]; exact hsp
    have h1 := rows_len h
    have h2 := join_len [59, 32] ((r :: rs).map rowL)
    rw [List.length_map] at h2
    have hL : (mk (joinL [59, 32] ((r :: rs).map rowL))).length + 2 <= TOP := by
      rw [mk_len]
      refine top_of ?_
      have : ([59, 32] : List Nat).length = 2 := rfl
      rw [this] at h2
      omega
    have hlow : ∀ d ∈ joinL [59, 32] ((r :: rs).map rowL), d < 128 := by
      have : ∀ ls : List (List Nat), (∀ l ∈ ls, ∀ d ∈ l, d < 128) -> ∀ d ∈ joinL [59, 32] ls, d < 128 := fun ls => by
        induction ls with
        | nil => intro _ d hd; simp [joinL] at hd
        | cons p ps ih =>
          intro hh d hd
          cases ps with
          | nil => exact hh p (by simp) d hd
          | cons q ps =>
            have hd : d ∈ p ++ [59, 32] ++ joinL [59, 32] (q :: ps) := hd
            rcases List.mem_append.mp hd with hd | hd
            · rcases List.mem_append.mp hd with hd | hd
              · exact hh p (by simp) d hd
              · have : d = 59 ∨ d = 32 := by simpa using hd
                omega
            · exact ih (fun l hl => hh l (by simp only [List.mem_cons] at hl ⊢; exact .inr hl)) d hd
      exact this _ fun l hl d hd => by
        obtain ⟨u, hu, rfl⟩ := List.mem_map.mp hl
        have := (h u hu).sg d hd
        omega
    have q0 : fEq false (.str (mk (joinL [59, 32] ((r :: rs).map rowL)))) (.str "-") = some (.bl false) := by
      have := eq_str (neg := false) (x := mk (joinL [59, 32] ((r :: rs).map rowL))) (y := "-") (ok_low hlow) (by rw [dash_mk]; exact ok_low (by simp))
      rw [this]
      have hne : ¬ mk (joinL [59, 32] ((r :: rs).map rowL)) = "-" := by
        rw [dash_mk]
        intro z
        have z := mk_inj z
        have hin : 58 ∈ joinL [59, 32] ((r :: rs).map rowL) := by
          have h58 : 58 ∈ rowL r := by unfold rowL; simp
          cases rs with
          | nil => exact h58
          | cons u us =>
            show 58 ∈ rowL r ++ [59, 32] ++ joinL [59, 32] ((u :: us).map rowL)
            exact List.mem_append_left _ (List.mem_append_left _ h58)
        rw [z] at hin
        simp at hin
      rw [decide_eq_false hne]; rfl
    have c1 : (("; " : Str).length == 0) = false := by decide +kernel
    have c := compT_rows (r :: rs) h
    have hT : (r :: rs).length <= TOP := top_of (by omega)
    have hlZ : ((((r :: rs).map rowL).map mk).map D.str).length = (r :: rs).length := by simp
    have hrt : rowsT (r :: rs) = .lst ((r :: rs).map rnT) := rfl
    rw [hrt]
    rw [<- hlZ] at hT
    have hspD : (Txt.split (mk (joinL [59, 32] ((r :: rs).map rowL))) ("; " : Str)).map D.str = (((r :: rs).map rowL).map mk).map D.str := by rw [hsp]
    generalize (((r :: rs).map rowL).map mk).map D.str = ZZ at *
    generalize mk (joinL [59, 32] ((r :: rs).map rowL)) = TX at *
    generalize (r :: rs).map rnT = RT at *
    simp [m_rows_in, mir, stE, N_rows_in, g_rows_in, q0, gCompT, c1, hL, hspD, hT, c]
structure TkR (t : Str × Int) : Prop where
  nam : NameOk t.1
  lo : 0 <= t.2
  hi : t.2 < 1000000
def tkL (t : Str × Int) : List Nat := nmL t.1 ++ [32] ++ dg t.2.toNat
theorem TkR.len {t : Str × Int} (h : TkR t) : (tkL t).length <= 60 := by
  have h1 := dg_len 5 t.2.toNat (by have := h.hi; have := h.lo; omega)
  have h2 := nmL_len h.nam
  unfold tkL
  simp only [List.length_append, List.length_singleton]
  omega
theorem TkR.sg {t : Str × Int} (h : TkR t) : ∀ d ∈ tkL t, d = 32 ∨ (48 <= d /\ d <= 57) ∨ (97 <= d /\ d <= 122) := fun d hd => by
  unfold tkL at hd
  rcases List.mem_append.mp hd with hd | hd
  · rcases List.mem_append.mp hd with hd | hd
    · exact .inr (nmL_sg h.nam d hd)
    · exact .inl (List.mem_singleton.mp hd)
  · exact .inr (.inl (dg_dig _ d hd))
theorem tks_len {q : SI} (h : ∀ t ∈ q, TkR t) : (q.map tkL).flatten.length <= q.length * 60 := by
  have := flat_len (ls := q.map tkL) (b := 60) fun l hl => by
    obtain ⟨t, ht, rfl⟩ := List.mem_map.mp hl
    exact (h t ht).len
  rwa [List.length_map] at this
theorem comp_qt : ∀ q : SI, (∀ t ∈ q, TkR t) -> compD (.tup [0, 1]) tYes e_queue_text_0 [none, none] (q.map tkD) = some (((q.map tkL).map mk).map D.str)
  | [], _ => by simp
  | t :: q, h => by
    have ih := comp_qt q fun u hu => h u (by simp [hu])
    have ht := h t (by simp)
    obtain ⟨m, hm⟩ : ∃ m : Nat, t.2 = (m : Int) := ⟨t.2.toNat, by have := ht.lo; omega⟩
    have hmt : t.2.toNat = m := by omega
    have hm6 : m < 1000000 := by have := ht.hi; omega
    have hf2 : m < FEW := by unfold FEW; omega
    have e : t.1 ++ ((" " : Str) ++ (numT (m : Int) ++ Str.empty)) = mk (tkL t) := by
      conv => lhs; rw [<- nmL_mk t.1]
      rw [sp_mk, empty_mk, num_mk, mk_app, mk_app, mk_app]
      unfold tkL; rw [hmt]; simp
    have hT : (mk (tkL t)).length <= TOP := by rw [mk_len]; exact top_of (by have := ht.len; omega)
    simp only [List.map_cons, ev_compS, ih]
    simp [tkD, asgD, setMany, e_queue_text_0, hm, hf2, e, hT]
theorem e_queue_text {q : SI} (h : ∀ t ∈ q, TkR t) (hl : q.length <= 61) : m_queue_text [.val (.lst (q.map tkD))] = some (.val (.str (mk (textX [44, 32] (q.map tkL))))) := by
  have c := comp_qt q h
  have h1 := tks_len h
  have e := e_parted (ls := q.map tkL) (sep := [44, 32]) (top_of (by rw [List.length_map]; show _ + q.length * 2 <= 5000; omega))
  rw [<- comma_mk] at e
  have hT : (q.map tkD).length <= TOP := by rw [List.length_map]; exact top_of (by omega)
  generalize ((q.map tkL).map mk).map D.str = ZZ at *
  generalize q.map tkD = RR at *
  simp [m_queue_text, mir, stE, N_queue_text, g_queue_text, hT, c, e]
theorem comp_lqt : ∀ q : SI, (∀ t ∈ q, TkR t) -> compD (.tup [0, 1]) tYes e_l_queue_text_0 [none, none] (q.map tkD) = some (((q.map tkL).map mk).map D.str)
  | [], _ => by simp
  | t :: q, h => by
    have ih := comp_lqt q fun u hu => h u (by simp [hu])
    have ht := h t (by simp)
    obtain ⟨m, hm⟩ : ∃ m : Nat, t.2 = (m : Int) := ⟨t.2.toNat, by have := ht.lo; omega⟩
    have hmt : t.2.toNat = m := by omega
    have hm6 : m < 1000000 := by have := ht.hi; omega
    have hf2 : m < FEW := by unfold FEW; omega
    have hlx := nmL_len ht.nam
    have hd := dg_len 5 m (by simpa using hm6)
    have lx : t.1.length = (nmL t.1).length := by
      conv => lhs; rw [<- nmL_mk t.1]
      rw [mk_len]
    have e1 : t.1 ++ (" " : Str) = mk (nmL t.1 ++ [32]) := by
      conv => lhs; rw [<- nmL_mk t.1]
      rw [sp_mk, mk_app]
    have e2 : mk (nmL t.1 ++ [32]) ++ numT (m : Int) = mk (tkL t) := by rw [num_mk, mk_app]; unfold tkL; rw [hmt]
    have l1 : t.1.length + (" " : Str).length <= TOP := by rw [sp_mk, mk_len, lx]; exact top_of (by simp; omega)
    have l2 : (mk (nmL t.1 ++ [32])).length + (numT (m : Int)).length <= TOP := by rw [num_mk, mk_len, mk_len]; exact top_of (by simp; omega)
    simp only [List.map_cons, ev_compS, ih]
    simp [tkD, asgD, setMany, e_l_queue_text_0, hm, hf2, e1, e2, l1, l2]
theorem e_l_queue_text {q : SI} (h : ∀ t ∈ q, TkR t) (hl : q.length <= 61) : m_l_queue_text [.val (.lst (q.map tkD))] = some (.val (.str (mk (textX [44, 32] (q.map tkL))))) := by
  have c := comp_lqt q h
  have h1 := tks_len h
  have hok : ∀ x ∈ (q.map tkL).map mk, Ok x := fun x hx => by
    obtain ⟨l, hl, rfl⟩ := List.mem_map.mp hx
    obtain ⟨r, hr, rfl⟩ := List.mem_map.mp hl
    exact ok_low fun d hd => by have := (h r hr).sg d hd; omega
  have e0 := eq_strs0 (neg := false) hok
  have ha := asSs_map ((q.map tkL).map mk)
  have hs := sum_mk (q.map tkL)
  have hj := join_any [44, 32] (q.map tkL)
  rw [<- comma_mk] at hj
  have hk : (", " : Str).length = 2 := by rw [comma_mk, mk_len]; rfl
  have hT : (q.map tkL).flatten.length + q.length * 2 <= TOP := top_of (by omega)
  have hTq : (q.map tkD).length <= TOP := by rw [List.length_map]; exact top_of (by omega)
  cases q with
  | nil =>
    simp at e0
    simp [m_l_queue_text, mir, stE, N_l_queue_text, g_l_queue_text, e0, textX, dash_mk]
  | cons r rs =>
    have ht : textX [44, 32] ((r :: rs).map tkL) = joinL [44, 32] ((r :: rs).map tkL) := rfl
    rw [ht, <- hj]
    have hl2 : (((r :: rs).map tkL).map mk).length = (r :: rs).length := by simp
    have hne : ((r :: rs).map tkL).map mk ≠ [] := by simp
    generalize ((r :: rs).map tkL).map mk = ZZ at *
    simp only [hne, decide_false, Bool.false_eq_true, if_false] at e0
    generalize (r :: rs).map tkD = RR at *
    generalize ((r :: rs).map tkL).flatten.length = NN at *
    generalize (r :: rs).length = MM at *
    simp [m_l_queue_text, mir, stE, N_l_queue_text, g_l_queue_text, c, hTq, e0, ha, hs, hl2, hk, hT]
theorem e_ticket_in {t : Str × Int} (h : TkR t) : m_ticket_in [.val (.str (mk (tkL t)))] = some (.val (tkD t)) := by
  obtain ⟨m, hm⟩ : ∃ m : Nat, t.2 = (m : Int) := ⟨t.2.toNat, by have := h.lo; omega⟩
  have hmt : t.2.toNat = m := by omega
  have hm6 : m < 1000000 := by have := h.hi; omega
  have en := e_number_in hm6
  have ea := e_name_in h.nam
  have hp : Txt.partition (mk (tkL t)) (" " : Str) = (mk (nmL t.1), mk [32], mk (dg m)) := by
    rw [sp_mk]
    unfold tkL
    rw [hmt]
    exact QX.part_first (c := 32) (nmL t.1) (dg m) (no32 h.nam)
  rw [nmL_mk] at hp
  have hp3 : part3 (mk (tkL t)) (" " : Str) = [t.1, mk [32], mk (dg m)] := by unfold part3; rw [hp]
  have c1 : ((" " : Str).length == 0) = false := by decide +kernel
  have hlr : (mk (tkL t)).length <= TOP := by rw [mk_len]; exact top_of (by have := h.len; omega)
  have ht : tkD t = .tup [.str t.1, .int (m : Int)] := by unfold tkD; rw [hm]
  rw [ht]
  generalize mk (tkL t) = TX at *
  simp [m_ticket_in, mir, stE, N_ticket_in, g_ticket_in, c1, hlr, hp3, en, ea, t2]
theorem comp_qi : ∀ q : SI, (∀ t ∈ q, TkR t) -> compD (.name 0) tYes e_queue_in_0 [none] (((q.map tkL).map mk).map D.str) = some (q.map tkD)
  | [], _ => by simp
  | t :: q, h => by
    have ih := comp_qi q fun u hu => h u (by simp [hu])
    have e := e_ticket_in (h t (by simp))
    simp only [List.map_cons, ev_compS, ih]
    simp [e_queue_in_0, e]
theorem e_queue_in {q : SI} (h : ∀ t ∈ q, TkR t) (hl : q.length <= 61) : m_queue_in [.val (.str (mk (textX [44, 32] (q.map tkL))))] = some (.acc (q.map tkD)) := by
  cases q with
  | nil =>
    have q0 : fEq false (.str "-") (.str "-") = some (.bl true) := by
      have := eq_str (neg := false) (x := "-") (y := "-") (by rw [dash_mk]; exact ok_low (by simp)) (by rw [dash_mk]; exact ok_low (by simp))
      rw [this]; simp
    have ht : textX [44, 32] (([] : SI).map tkL) = [45] := rfl
    rw [ht, <- dash_mk]
    simp [m_queue_in, mir, stE, N_queue_in, g_queue_in, q0]
  | cons r rs =>
    have ht : textX [44, 32] ((r :: rs).map tkL) = joinL [44, 32] ((r :: rs).map tkL) := rfl
    rw [ht]
    have hno : ∀ p ∈ (r :: rs).map tkL, 44 ∉ p := fun p hp z => by
      obtain ⟨u, hu, rfl⟩ := List.mem_map.mp hp
      have := (h u hu).sg 44 z
      omega
    have hsp := QX.split_join (c := 44) (cs := [32]) (by simp) (by simp) (ps := (r :: rs).map tkL) (by simp) hno
    have hsp : Txt.split (mk (joinL [44, 32] ((r :: rs).map tkL))) (", " : Str) = ((r :: rs).map tkL).map mk := by rw [comma_mk]; exact hsp
    have h1 := tks_len h
    have h2 := join_len [44, 32] ((r :: rs).map tkL)
    rw [List.length_map] at h2
    have hL : (mk (joinL [44, 32] ((r :: rs).map tkL))).length + 2 <= TOP := by
      rw [mk_len]
      refine top_of ?_
      have : ([44, 32] : List Nat).length = 2 := rfl
      rw [this] at h2
      omega
    have hlow : ∀ d ∈ joinL [44, 32] ((r :: rs).map tkL), d < 128 := by
      have : ∀ ls : List (List Nat), (∀ l ∈ ls, ∀ d ∈ l, d < 128) -> ∀ d ∈ joinL [44, 32] ls, d < 128 := fun ls => by
        induction ls with
        | nil => intro _ d hd; simp [joinL] at hd
        | cons p ps ih =>
          intro hh d hd
          cases ps with
          | nil => exact hh p (by simp) d hd
          | cons q ps =>
            have hd : d ∈ p ++ [44, 32] ++ joinL [44, 32] (q :: ps) := hd
            rcases List.mem_append.mp hd with hd | hd
            · rcases List.mem_append.mp hd with hd | hd
              · exact hh p (by simp) d hd
              · have : d = 44 ∨ d = 32 := by simpa using hd
                omega
            · exact ih (fun l hl => hh l (by simp only [List.mem_cons] at hl ⊢; exact .inr hl)) d hd
      exact this _ fun l hl d hd => by
        obtain ⟨u, hu, rfl⟩ := List.mem_map.mp hl
        have := (h u hu).sg d hd
        omega
    have q0 : fEq false (.str (mk (joinL [44, 32] ((r :: rs).map tkL)))) (.str "-") = some (.bl false) := by
      have := eq_str (neg := false) (x := mk (joinL [44, 32] ((r :: rs).map tkL))) (y := "-") (ok_low hlow) (by rw [dash_mk]; exact ok_low (by simp))
      rw [this]
      have hne : ¬ mk (joinL [44, 32] ((r :: rs).map tkL)) = "-" := by
        rw [dash_mk]
        intro z
        have z := mk_inj z
        have hin : 32 ∈ joinL [44, 32] ((r :: rs).map tkL) := by
          have h58 : 32 ∈ tkL r := by unfold tkL; simp
          cases rs with
          | nil => exact h58
          | cons u us =>
            show 32 ∈ tkL r ++ [44, 32] ++ joinL [44, 32] ((u :: us).map tkL)
            exact List.mem_append_left _ (List.mem_append_left _ h58)
        rw [z] at hin
        simp at hin
      rw [decide_eq_false hne]; rfl
    have c1 : ((", " : Str).length == 0) = false := by decide +kernel
    have c := comp_qi (r :: rs) h
    have hT : (r :: rs).length <= TOP := top_of (by omega)
    have hlZ : ((((r :: rs).map tkL).map mk).map D.str).length = (r :: rs).length := by simp
    rw [<- hlZ] at hT
    have hspD : (Txt.split (mk (joinL [44, 32] ((r :: rs).map tkL))) (", " : Str)).map D.str = (((r :: rs).map tkL).map mk).map D.str := by rw [hsp]
    generalize (((r :: rs).map tkL).map mk).map D.str = ZZ at *
    generalize mk (joinL [44, 32] ((r :: rs).map tkL)) = TX at *
    generalize (r :: rs).map tkD = RT at *
    simp [m_queue_in, mir, stE, N_queue_in, g_queue_in, q0, c1, hL, hspD, hT, c]
end My
namespace My
open PySem PySem.Spec L2 L3 L4 Dv HM QM
open PyProof.Rows hiding St
theorem seq_next {s1 b : SD} {ρ ρ' : EnvD} {r : Option Fl} (h : s1 ρ = some (.next ρ')) (k : b ρ' = r) : sSeq s1 b ρ = r := by
  unfold sSeq; rw [h]; exact k
theorem setT_step {g : EnvD -> Option OT} {t : OT} {i : Nat} {b : SD} {ρ : EnvD} {r : Option Fl} (h : g ρ = some t) (k : b (ρ.set i (some (.tre t))) = r) : sSeq (sSetT i g) b ρ = r := by
  refine seq_next (ρ' := ρ.set i (some (.tre t))) ?_ k
  rw [ev_sSetT, h]; rfl
def addX (r : Int × List Str) : Int × List Str := (r.1, r.2 ++ [("a" : Str)])
theorem gets_app {p : List Nat} {t : OT} : ∀ (pre tl : List OT), gets (pre ++ t :: tl) pre.length p = t.get p
  | [], tl => by simp [gets]
  | a :: pre, tl => by simp only [List.cons_append, List.length_cons, gets]; exact gets_app pre tl
theorem puts_app {p : List Nat} {t u : OT} : ∀ (pre tl : List OT), puts (pre ++ t :: tl) pre.length p u = pre ++ t.put p u :: tl
  | [], tl => by simp [puts]
  | a :: pre, tl => by simp only [List.cons_append, List.length_cons, puts]; rw [puts_app pre tl]
theorem mut_rows : ∀ (rows : List (Int × List Str)) (pre : List OT), (∀ r ∈ rows, r.2.length <= 100) -> mutN 1 mAppend [.str "a"] (.lst (pre ++ rows.map rnT)) pre.length rows.length = some (.lst (pre ++ (rows.map addX).map rnT))
  | [], pre, _ => by simp [mutN]
  | r :: rows, pre, h => by
    have hr := h r List.mem_cons_self
    have hT : (r.2.map D.str).length <= TOP := by simp [TOP]; omega
    have ih := mut_rows rows (pre ++ [rnT (addX r)]) fun u hu => h u (List.mem_cons_of_mem _ hu)
    have g : (OT.lst (pre ++ (r :: rows).map rnT)).get [pre.length, 1] = some (.lst (lfs (r.2.map D.str))) := by
      show gets (pre ++ rnT r :: rows.map rnT) pre.length [1] = _
      rw [gets_app]; simp [rnT, OT.get, gets]
    have pt : (OT.lst (pre ++ (r :: rows).map rnT)).put [pre.length, 1] (.lst (lfs (r.2.map D.str ++ [.str "a"]))) = .lst ((pre ++ [rnT (addX r)]) ++ rows.map rnT) := by
      rw [put_lst]
      show OT.lst (puts (pre ++ rnT r :: rows.map rnT) pre.length [1] _) = _
      rw [puts_app, List.append_assoc]
      congr 2
      simp [rnT, addX, OT.put, puts, lfs]
    show (((OT.lst (pre ++ (r :: rows).map rnT)).get [pre.length, 1]).bind OT.leaf).bind _ = _
    rw [g]
    show (OT.leaf (.lst (lfs (r.2.map D.str)))).bind _ = _
    rw [leaf_lfs]
    show (mAppend (r.2.map D.str) [.str "a"]).bind _ = _
    rw [ev_mAppend, if_pos hT]
    show mutN 1 mAppend [.str "a"] ((OT.lst (pre ++ (r :: rows).map rnT)).put [pre.length, 1] (.lst (lfs (r.2.map D.str ++ [.str "a"])))) (pre.length + 1) rows.length = _
    rw [pt]
    have el : (pre ++ [rnT (addX r)]).length = pre.length + 1 := by simp
    rw [el] at ih
    rw [ih]
    simp
theorem comp_copy : ∀ W : List RN, (∀ r ∈ W, r.2.length <= 100) -> compD (.tup [0, 1]) tYes e_l_rows_right_0 [none, none] (W.map rnD) = some (W.map rnD)
  | [], _ => by simp
  | r :: W, h => by
    have ih := comp_copy W fun u hu => h u (by simp [hu])
    have hr := h r (by simp)
    have hT : r.2.length <= TOP := by simp [TOP]; omega
    have t2 : 2 <= TOP := by decide
    simp only [List.map_cons, ev_compS, ih]
    simp [rnD, e_l_rows_right_0, asgD, setMany, hT, t2]
theorem for_inv {t : Tgt} {s : SD} {I : EnvD -> Prop} : ∀ (ds : List D), (∀ d ∈ ds, ∀ ρ, I ρ -> ∃ ρ1 ρ2, asgD t d ρ = some ρ1 /\ s ρ1 = some (.next ρ2) /\ I ρ2) -> ∀ ρ, I ρ -> ∃ ρ', forD t s ds ρ = some (.next ρ') /\ I ρ'
  | [], _, ρ, h => ⟨ρ, rfl, h⟩
  | d :: ds, hs, ρ, h => by
    obtain ⟨ρ1, ρ2, h1, h2, h3⟩ := hs d List.mem_cons_self ρ h
    obtain ⟨ρ', h4, h5⟩ := for_inv ds (fun e he => hs e (List.mem_cons_of_mem _ he)) ρ2 h3
    refine ⟨ρ', ?_, h5⟩
    show ((asgD t d ρ).bind fun ρ1 => (s ρ1).bind fun fl => _) = _
    rw [h1]
    show ((s ρ1).bind fun fl => _) = _
    rw [h2]
    exact h4
theorem cut_ex {α β : Type} (f : α -> β) (xs : List α) (l h : Option Int) : ∃ A : List α, cutD (xs.map f) l h = A.map f /\ A.length <= xs.length /\ ∀ a ∈ A, a ∈ xs := by
  refine ⟨cutD xs l h, cut_map, ?_, fun a ha => ?_⟩
  · unfold Dv.cutD; simp; omega
  · unfold Dv.cutD at ha
    exact List.mem_of_mem_drop (List.mem_of_mem_take ha)
theorem sTT : subT "tuple" "tuple" = some true := by decide
theorem sLL : subT "list" "list" = some true := by decide
theorem sIB : subT "int" "bool" = some false := by decide
theorem sII : subT "int" "int" = some true := by decide
theorem RowOk.ok {r : RN} (h : RowOk r) : ∀ y ∈ r.2, Ok y := fun y hy => (h.nam y hy).ok
theorem text_ok {rs : List RN} (h : ∀ r ∈ rs, RowOk r) (hl : rs.length <= 61) : Ok (mk (textX [59, 32] (rs.map rowL))) := by
  refine ok_low fun d hd => ?_
  have : ∀ ls : List (List Nat), (∀ l ∈ ls, ∀ d ∈ l, d < 128) -> ∀ d ∈ textX [59, 32] ls, d < 128 := fun ls => by
    intro hh d hd
    cases ls with
    | nil =>
      have : d = 45 := by simpa [textX] using hd
      omega
    | cons p ps =>
      have hd : d ∈ QX.joinL [59, 32] (p :: ps) := hd
      have key : ∀ (ps : List (List Nat)) (p : List Nat), (∀ l ∈ p :: ps, ∀ d ∈ l, d < 128) -> ∀ d ∈ QX.joinL [59, 32] (p :: ps), d < 128 := fun ps => by
        induction ps with
        | nil => intro p hh d hd; exact hh p (by simp) d hd
        | cons q ps ih =>
          intro p hh d hd
          have hd : d ∈ p ++ [59, 32] ++ QX.joinL [59, 32] (q :: ps) := hd
          rcases List.mem_append.mp hd with hd | hd
          · rcases List.mem_append.mp hd with hd | hd
            · exact hh p (by simp) d hd
            · have : d = 59 ∨ d = 32 := by simpa using hd
              omega
          · exact ih q (fun l hl => hh l (List.mem_cons_of_mem _ hl)) d hd
      exact key ps p hh d hd
  exact this _ (fun l hl d hd => by
    obtain ⟨u, hu, rfl⟩ := List.mem_map.mp hl
    have := (h u hu).sg d hd
    omega) d hd
theorem qtext_ok {q : SI} (h : ∀ t ∈ q, TkR t) : Ok (mk (textX [44, 32] (q.map tkL))) := by
  refine ok_low fun d hd => ?_
  have : ∀ ls : List (List Nat), (∀ l ∈ ls, ∀ d ∈ l, d < 128) -> ∀ d ∈ textX [44, 32] ls, d < 128 := fun ls => by
    intro hh d hd
    cases ls with
    | nil =>
      have : d = 45 := by simpa [textX] using hd
      omega
    | cons p ps =>
      have hd : d ∈ QX.joinL [44, 32] (p :: ps) := hd
      have key : ∀ (ps : List (List Nat)) (p : List Nat), (∀ l ∈ p :: ps, ∀ d ∈ l, d < 128) -> ∀ d ∈ QX.joinL [44, 32] (p :: ps), d < 128 := fun ps => by
        induction ps with
        | nil => intro p hh d hd; exact hh p (by simp) d hd
        | cons q ps ih =>
          intro p hh d hd
          have hd : d ∈ p ++ [44, 32] ++ QX.joinL [44, 32] (q :: ps) := hd
          rcases List.mem_append.mp hd with hd | hd
          · rcases List.mem_append.mp hd with hd | hd
            · exact hh p (by simp) d hd
            · have : d = 44 ∨ d = 32 := by simpa using hd
              omega
          · exact ih q (fun l hl => hh l (List.mem_cons_of_mem _ hl)) d hd
      exact key ps p hh d hd
  exact this _ (fun l hl d hd => by
    obtain ⟨u, hu, rfl⟩ := List.mem_map.mp hl
    have := (h u hu).sg d hd
    omega) d hd
def TG : EnvD -> Option Bool := (gOr (gNot (gt (gIs "tuple" (gh 4)))) (gOr (gt (gIs "bool" (g2 fItem (gh 4) (gc (.int 0))))) (gNot (gt (gIs "list" (g2 fItem (gh 4) (gc (.int 1))))))))
theorem tg_no (a b c d : Option En) (r : RN) : TG [a, b, c, d, some (.tre (rnT r))] = some false := by
  have er := erase_rn r
  have ty : tyD (rnD r) = some "tuple" := rfl
  have i0 : fItem (rnD r) (.int 0) = some (.int r.1) := by simp [rnD]
  have i1 : fItem (rnD r) (.int 1) = some (.lst (r.2.map D.str)) := by simp [rnD]
  simp [TG, er, ty, sTT, i0, i1, sLL, sIB]
theorem e_l_rows_right {rs : List RN} (h : ∀ r ∈ rs, RowOk r) (hl : rs.length <= 61) : m_l_rows_right [.val (.lst (rs.map rnD))] = some (.val (.bl true)) := by
  have hfew : ∀ r ∈ rs, r.2.length <= 100 := fun r hr => by have := (h r hr).few; omega
  have c := comp_copy rs hfew
  have e1 := e_l_rows_text h hl
  have e2 := e_rows_text h hl
  have e3 := e_rows_in h hl
  have er := erase_rows rs
  have q1 : fEq true (.str (mk (textX [59, 32] (rs.map rowL)))) (.str (mk (textX [59, 32] (rs.map rowL)))) = some (.bl false) := by
    have := eq_str (neg := true) (text_ok h hl) (text_ok h hl)
    rw [this]; simp
  have q2 := eq_rns (neg := true) (fun r hr => (h r hr).ok : ∀ r ∈ rs, ∀ y ∈ r.2, Ok y) (fun r hr => (h r hr).ok)
  have q3 := eq_rns (neg := false) (fun r hr => (h r hr).ok : ∀ r ∈ rs, ∀ y ∈ r.2, Ok y) (fun r hr => (h r hr).ok)
  simp only [decide_true, Bool.not_true, if_true, Bool.false_eq_true, if_false] at q2 q3
  have hT : (rs.map rnD).length <= TOP := by rw [List.length_map]; exact top_of (by omega)
  have mr := mut_rows rs [] hfew
  simp only [List.nil_append, List.length_nil] at mr
  have s2 : ∀ a b c : Option En, sAllTt 3 4 1 TG mAppend [.str "a"] [a, b, c, some (.tre (rowsT rs)), none] = some (.next [a, b, c, some (.tre (rowsT (rs.map addX))), none]) := fun a b c => by
    have mr : mutN 1 mAppend [.str "a"] (.lst (rs.map rnT)) 0 (rs.map rnT).length = some (.lst ((rs.map addX).map rnT)) := by
      rw [List.length_map]; exact mr
    have hall : ((rs.map rnT).all fun t => decide (TG (([a, b, c, some (.tre (rowsT rs)), none] : EnvD).set 3 none |>.set 4 (some (.tre t))) = some false)) = true := by
      rw [List.all_eq_true]
      intro t ht
      obtain ⟨r, hr, rfl⟩ := List.mem_map.mp ht
      exact decide_eq_true (tg_no a b c none r)
    show (if 4 < ([a, b, c, some (.tre (rowsT rs)), none] : EnvD).length then (if ((rs.map rnT).all fun t => decide (TG (([a, b, c, some (.tre (rowsT rs)), none] : EnvD).set 3 none |>.set 4 (some (.tre t))) = some false)) = true then (mutN 1 mAppend [.str "a"] (.lst (rs.map rnT)) 0 (rs.map rnT).length).map _ else none) else none) = _
    rw [if_pos (by show 4 < 5; decide), if_pos hall, mr]
    rfl
  have key : g_l_rows_right [some (.val (.lst (rs.map rnD))), none, none, none, none] = some (.ret (.val (.bl true))) := by
    generalize rowsT (rs.map addX) = W2 at s2
    generalize rs.map rnD = RR at *
    generalize mk (textX [59, 32] (rs.map rowL)) = TX at *
    generalize rowsT rs = RT at *
    unfold g_l_rows_right
    refine set_step (d := .lst RR) (by simp [hT, c]) ?_
    refine set_step (d := .str TX) (by simp [e1]) ?_
    refine no_step (by simp [e2, q1, q2]) ?_
    refine setT_step (t := RT) (by simp [e3]) ?_
    refine no_step (by simp [er, sLL, q2]) ?_
    refine seq_next (ρ' := [some (.val (.lst RR)), some (.val (.lst RR)), some (.val (.str TX)), some (.tre W2), none]) (s2 _ _ _) ?_
    simp [e3, er, q3]
  simp [m_l_rows_right, mir, stE, N_l_rows_right, key]
theorem comp_zero : ∀ q : SI, compD (.name 0) (gOr (gNot (gt (gIs "tuple" (gr 0)))) (gt (gIs "bool" (g2 fItem (gr 0) (gc (.int 1)))))) e_l_queue_right_0 [none] (q.map tkD) = some []
  | [] => by simp
  | t :: q => by
    have ih := comp_zero q
    have ty : tyD (tkD t) = some "tuple" := rfl
    have i1 : fItem (tkD t) (.int 1) = some (.int t.2) := by simp [tkD]
    simp only [List.map_cons, ev_compS, ih]
    simp [ty, sTT, i1, sIB]
theorem e_l_queue_right {q : SI} (h : ∀ t ∈ q, TkR t) (hl : q.length <= 61) : m_l_queue_right [.val (.lst (q.map tkD))] = some (.val (.bl true)) := by
  have e1 := e_l_queue_text h hl
  have e2 := e_queue_text h hl
  have e3 := e_queue_in h hl
  have okq : ∀ t ∈ q, Ok t.1 := fun t ht => (h t ht).nam.ok
  have q1 : fEq true (.str (mk (textX [44, 32] (q.map tkL)))) (.str (mk (textX [44, 32] (q.map tkL)))) = some (.bl false) := by
    have := eq_str (neg := true) (qtext_ok h) (qtext_ok h)
    rw [this]; simp
  have q2 := eq_tks (neg := true) okq okq
  have q3 := eq_tks (neg := false) okq okq
  simp only [decide_true, Bool.not_true, if_true, Bool.false_eq_true, if_false] at q2 q3
  have hT : (q.map tkD).length <= TOP := by rw [List.length_map]; exact top_of (by omega)
  have c := comp_zero q
  have key : g_l_queue_right [some (.val (.lst (q.map tkD))), none, none, none] = some (.ret (.val (.bl true))) := by
    generalize q.map tkD = RR at *
    generalize mk (textX [44, 32] (q.map tkL)) = TX at *
    unfold g_l_queue_right
    refine set_step (d := .lst RR) (by simp [hT]) ?_
    refine set_step (d := .str TX) (by simp [e1]) ?_
    refine no_step (by simp [e2, q1, q2]) ?_
    refine setA_step (ds := RR) (by simp [e3]) ?_
    refine no_step (by simp [sLL, q2]) ?_
    refine no_step (by simp [hT, c]) ?_
    refine seq_next (ρ' := [some (.val (.lst RR)), some (.val (.lst RR)), some (.val (.str TX)), some (.acc (RR ++ [.tup [.str "a", .int 1]]))]) (by simp [hT, t2]) ?_
    simp [e3, q3]
  simp [m_l_queue_right, mir, stE, N_l_queue_right, key]
theorem pick_loop {xs : List Str} (hx : ∀ x ∈ xs, NameOk x) (hne : 0 < xs.length) (hxl : xs.length <= 10) (X0 X2 X3 X4 X5 : Option En) : ∀ (ks : List Nat) (p : Int) (acc : List Str) (a : Option En), acc.length + ks.length <= 100 -> (∀ x ∈ acc, NameOk x) -> ∃ (p' : Int) (acc' : List Str) (a' : Option En), (∀ x ∈ acc', NameOk x) /\ acc'.length = acc.length + ks.length /\
    forD (.name 8) b_l_rows_0 (ks.map fun (k : Nat) => D.int (0 + (k : Int))) [X0, some (.val (.lst (xs.map D.str))), X2, X3, X4, X5, some (.val (.int p)), some (.acc (acc.map D.str)), a] = some (.next [X0, some (.val (.lst (xs.map D.str))), X2, X3, X4, X5, some (.val (.int p')), some (.acc (acc'.map D.str)), a'])
  | [], p, acc, a, _, h => ⟨p, acc, a, h, by simp, by simp⟩
  | k :: ks, p, acc, a, hl, h => by
    simp only [List.length_cons] at hl
    have hpos : (0 : Int) < (xs.length : Int) := by omega
    obtain ⟨n, en1, en2⟩ := atI_pos (xs := xs) (a := p / 6 % (xs.length : Int)) (Int.emod_nonneg _ (by omega)) (Int.emod_lt_of_pos _ hpos)
    have hn : n ∈ xs := atI_mem en1
    have ea : atI (xs.map D.str) (p / 6 % (xs.length : Int)) = some (.str n) := by rw [atI_map, en1]; rfl
    obtain ⟨p', acc', a', g1, g2, g3⟩ := pick_loop hx hne hxl X0 X2 X3 X4 X5 ks (p / 6) (acc ++ [n]) (some (.val (.int (0 + (k : Int))))) (by simp; omega) (fun x hx' => by
      rcases List.mem_append.mp hx' with z | z
      · exact h x z
      · rw [List.mem_singleton.mp z]; exact hx n hn)
    refine ⟨p', acc', a', g1, by rw [g2]; simp; omega, ?_⟩
    rw [<- g3]
    have hT : acc.length <= TOP := top_of (by omega)
    have hTx : xs.length <= TOP := top_of (by omega)
    simp [b_l_rows_0, asgD, div_ok, mod_ok hpos, ea, hT, hTx]
theorem rows_loop {xs : List Str} (hx : ∀ x ∈ xs, NameOk x) (hne : 0 < xs.length) (hxl : xs.length <= 10) (X0 X3 X4 : Option En) : ∀ (ts ps : List Int) (acc : List RN) (a5 a6 a7 a8 : Option En), ts.length = ps.length -> (∀ t ∈ ts, 0 <= t /\ t < 1000000) -> acc.length + ts.length <= 100 -> (∀ r ∈ acc, RowOk r) -> ∃ (acc' : List RN) (b5 b6 b7 b8 : Option En), (∀ r ∈ acc', RowOk r) /\ acc'.length = acc.length + ts.length /\
    forD (.tup [5, 6]) b_l_rows_1 (zipD (ts.map D.int) (ps.map D.int)) [X0, some (.val (.lst (xs.map D.str))), some (.acc (acc.map rnD)), X3, X4, a5, a6, a7, a8] = some (.next [X0, some (.val (.lst (xs.map D.str))), some (.acc (acc'.map rnD)), X3, X4, b5, b6, b7, b8])
  | [], [], acc, a5, a6, a7, a8, _, _, _, h => ⟨acc, a5, a6, a7, a8, h, by simp, by simp [zipD]⟩
  | [], _ :: _, _, _, _, _, _, hl, _, _, _ => by simp at hl
  | _ :: _, [], _, _, _, _, _, hl, _, _, _ => by simp at hl
  | t :: ts, p :: ps, acc, a5, a6, a7, a8, hl, ht, hk, h => by
    simp only [List.length_cons] at hk
    have ht0 := ht t (by simp)
    have hB : -BIG <= p % 6 /\ p % 6 <= BIG := by unfold BIG; omega
    obtain ⟨p', nm, c8, g1, g2, g3⟩ := pick_loop hx hne hxl X0 (some (.acc (acc.map rnD))) X3 X4 (some (.val (.int t))) (List.range (p % 6).toNat) p [] a8 (by simp; omega) (by simp)
    simp only [List.length_nil, Nat.zero_add, List.length_range] at g2
    obtain ⟨t', ht'⟩ : ∃ t' : Int, (if t % 3 = 0 then t / 3 % 40 else t) = t' := ⟨_, rfl⟩
    have hr : RowOk (t', nm) := ⟨by show 0 <= t'; rw [<- ht']; split <;> omega, by show t' < 1000000; rw [<- ht']; split <;> omega, g1, by show nm.length <= 5; omega⟩
    obtain ⟨acc', b5, b6, b7, b8, k1, k2, k3⟩ := rows_loop hx hne hxl X0 X3 X4 ts ps (acc ++ [(t', nm)]) (some (.val (.int t'))) (some (.val (.int p'))) (some (.val (.lst (nm.map D.str)))) c8 (by simpa using hl) (fun u hu => ht u (by simp [hu])) (by simp; omega) (fun r hr' => by
      rcases List.mem_append.mp hr' with z | z
      · exact h r z
      · rw [List.mem_singleton.mp z]; exact hr)
    refine ⟨acc', b5, b6, b7, b8, k1, by rw [k2]; simp; omega, ?_⟩
    rw [<- k3]
    have hT : acc.length <= TOP := top_of (by omega)
    have g3' := g3
    simp only [List.map_nil] at g3'
    rw [<- rngD_map] at g3'
    have en : (List.map D.int (t :: ts)) = D.int t :: ts.map D.int := rfl
    have en2 : (List.map D.int (p :: ps)) = D.int p :: ps.map D.int := rfl
    by_cases h3 : t % 3 = 0
    · rw [if_pos h3] at ht'
      simp [zipD, asgD, setMany, b_l_rows_1, mod_ok, div_ok, hB, h3, ht'] at g3' ⊢
      simp [g3', h3, ht', hT, t2, rnD, frzE, mod_ok, div_ok]
    · rw [if_neg h3] at ht'
      subst ht'
      simp [zipD, asgD, setMany, b_l_rows_1, mod_ok, div_ok, hB, h3] at g3' ⊢
      simp [g3', h3, hT, t2, rnD, frzE, mod_ok, div_ok]
theorem e_l_rows (ns : List Int) {xs : List Str} (hx : ∀ x ∈ xs, NameOk x) (hne : 0 < xs.length) (hxl : xs.length <= 10) : ∃ rs : List RN, (∀ r ∈ rs, RowOk r) /\ rs.length <= 60 /\ m_l_rows [.val (.scr ns), .val (.lst (xs.map D.str))] = some (.acc (rs.map rnD)) := by
  have c4 := e_l_cell ns 4
  generalize ns.getD 4 0 = w4 at *
  obtain ⟨ts, t1, t2', t3⟩ := e_l_row ns 3 1000000 (w4 % 61).toNat (by omega) (by omega) (by omega)
  obtain ⟨ps, p1, p2, p3⟩ := e_l_row ns 5 46656 ts.length (by omega) (by omega) (by omega)
  have hl : ts.length <= 60 := by omega
  obtain ⟨rs, b5, b6, b7, b8, k1, k2, k3⟩ := rows_loop hx hne hxl (some (.val (.scr ns))) (some (.val (.lst (ts.map D.int)))) (some (.val (.lst (ps.map D.int)))) ts ps [] none none none none p2.symm t1 (by simp; omega) (by simp)
  refine ⟨rs, k1, by simp at k2; omega, ?_⟩
  have en : (((w4 % 61).toNat : Nat) : Int) = w4 % 61 := by omega
  rw [en] at t3
  have pw1 : fPow (.int 10) (.int 6) = some (.int 1000000) := by rw [ev_fPow]; simp
  have pw2 : fPow (.int 6) (.int 6) = some (.int 46656) := by rw [ev_fPow]; simp
  have hT : (ts.map D.int).length <= TOP := by rw [List.length_map]; exact top_of (by omega)
  have hlen : (ts.map D.int).length = ts.length := List.length_map _
  simp only [List.map_nil] at k3
  have c4 : m_l_cell [.val (.scr ns), .val (.int 4)] = some (.val (.int w4)) := c4
  have t3 : m_l_row [.val (.scr ns), .val (.int 3), .val (.int 1000000), .val (.int (w4 % 61))] = some (.acc (ts.map D.int)) := t3
  have p3 : m_l_row [.val (.scr ns), .val (.int 5), .val (.int 46656), .val (.int (ts.length : Int))] = some (.acc (ps.map D.int)) := p3
  generalize ts.map D.int = TS at *
  generalize ps.map D.int = PS at *
  generalize rs.map rnD = RR at *
  generalize xs.map D.str = XS at *
  simp [m_l_rows, mir, stE, N_l_rows, g_l_rows, c4, mod_ok, pw1, pw2, t3, hT, hlen, p3, k3]
theorem queue_loop {xs : List Str} (hx : ∀ x ∈ xs, NameOk x) (hne : 0 < xs.length) (hxl : xs.length <= 10) (X0 : Option En) : ∀ (vs : List Int) (acc : SI) (a : Option En), (∀ v ∈ vs, 0 <= v /\ v < 6000000) -> acc.length + vs.length <= 100 -> (∀ t ∈ acc, TkR t) -> ∃ (acc' : SI) (a' : Option En), (∀ t ∈ acc', TkR t) /\ acc'.length = acc.length + vs.length /\
    forD (.name 3) b_l_queue_0 (vs.map D.int) [X0, some (.val (.lst (xs.map D.str))), some (.acc (acc.map tkD)), a] = some (.next [X0, some (.val (.lst (xs.map D.str))), some (.acc (acc'.map tkD)), a'])
  | [], acc, a, _, _, h => ⟨acc, a, h, by simp, by simp⟩
  | v :: vs, acc, a, hv, hl, h => by
    simp only [List.length_cons] at hl
    have hv0 := hv v (by simp)
    have hpos : (0 : Int) < (xs.length : Int) := by omega
    obtain ⟨n, en1, en2⟩ := atI_pos (xs := xs) (a := v % (xs.length : Int)) (Int.emod_nonneg _ (by omega)) (Int.emod_lt_of_pos _ hpos)
    have hn : n ∈ xs := atI_mem en1
    have ea : atI (xs.map D.str) (v % (xs.length : Int)) = some (.str n) := by rw [atI_map, en1]; rfl
    have ht : TkR (n, v / 6) := ⟨hx n hn, by show 0 <= v / 6; omega, by show v / 6 < 1000000; omega⟩
    obtain ⟨acc', a', k1, k2, k3⟩ := queue_loop hx hne hxl X0 vs (acc ++ [(n, v / 6)]) (some (.val (.int v))) (fun u hu => hv u (by simp [hu])) (by simp; omega) (fun t ht' => by
      rcases List.mem_append.mp ht' with z | z
      · exact h t z
      · rw [List.mem_singleton.mp z]; exact ht)
    refine ⟨acc', a', k1, by rw [k2]; simp; omega, ?_⟩
    rw [<- k3]
    have hT : acc.length <= TOP := top_of (by omega)
    have hTx : xs.length <= TOP := top_of (by omega)
    simp [b_l_queue_0, asgD, div_ok, mod_ok hpos, ea, hT, hTx, t2, tkD]
theorem e_l_queue (ns : List Int) {xs : List Str} (hx : ∀ x ∈ xs, NameOk x) (hne : 0 < xs.length) (hxl : xs.length <= 10) : ∃ q : SI, (∀ t ∈ q, TkR t) /\ q.length <= 60 /\ m_l_queue [.val (.scr ns), .val (.lst (xs.map D.str))] = some (.acc (q.map tkD)) := by
  have c7 := e_l_cell ns 7
  generalize ns.getD 7 0 = w7 at *
  obtain ⟨vs, v1, v2, v3⟩ := e_l_row ns 6 6000000 (w7 % 61).toNat (by omega) (by omega) (by omega)
  obtain ⟨q, a', k1, k2, k3⟩ := queue_loop hx hne hxl (some (.val (.scr ns))) vs [] none v1 (by simp; omega) (by simp)
  refine ⟨q, k1, by simp at k2; omega, ?_⟩
  have en : (((w7 % 61).toNat : Nat) : Int) = w7 % 61 := by omega
  rw [en] at v3
  have pw1 : fPow (.int 10) (.int 6) = some (.int 1000000) := by rw [ev_fPow]; simp
  have m1 : -LIM < 6 := by decide
  have m2 : (6 : Int) < LIM := by decide
  have m3 : -LIM < 1000000 := by decide
  have m4 : (1000000 : Int) < LIM := by decide
  simp only [List.map_nil] at k3
  have c7 : m_l_cell [.val (.scr ns), .val (.int 7)] = some (.val (.int w7)) := c7
  have v3 : m_l_row [.val (.scr ns), .val (.int 6), .val (.int 6000000), .val (.int (w7 % 61))] = some (.acc (vs.map D.int)) := v3
  generalize vs.map D.int = VS at *
  generalize q.map tkD = QQ at *
  generalize xs.map D.str = XS at *
  simp [m_l_queue, mir, stE, N_l_queue, g_l_queue, c7, mod_ok, pw1, mul_l, m1, m2, m3, m4, v3, k3]
theorem comp_t : ∀ rs : List RN, compD (.tup [0, 1]) tYes e_law_0 [none, none] (rs.map rnD) = some ((rs.map (·.1)).map D.int)
  | [] => by simp
  | r :: rs => by
    have ih := comp_t rs
    simp only [List.map_cons, ev_compS, ih]
    simp [rnD, asgD, setMany, e_law_0]
theorem comp_l : ∀ q : SI, compD (.tup [0, 1]) tYes e_law_1 [none, none] (q.map tkD) = some ((q.map (·.2)).map D.int)
  | [] => by simp
  | t :: q => by
    have ih := comp_l q
    simp only [List.map_cons, ev_compS, ih]
    simp [tkD, asgD, setMany, e_law_1]
def lE (ns : List Int) (N R Q : List D) (a4 a5 a6 : Option En) : EnvD := [some (.val (.scr ns)), some (.val (.lst N)), some (.val (.lst R)), some (.val (.lst Q)), a4, a5, a6]
theorem law_b4 {ns : List Int} {N R Q : List D} {d : D} (e : m_l_rows_right [.val d] = some (.val (.bl true))) (a5 a6 : Option En) : b_law_4 (lE ns N R Q (some (.val d)) a5 a6) = some (.next (lE ns N R Q (some (.val d)) a5 a6)) := by
  simp [b_law_4, lE, e]
theorem law_b3 {ns : List Int} {N R Q : List D} {d : D} (e : m_l_queue_right [.val d] = some (.val (.bl true))) (a5 a6 : Option En) : b_law_3 (lE ns N R Q (some (.val d)) a5 a6) = some (.next (lE ns N R Q (some (.val d)) a5 a6)) := by
  simp [b_law_3, lE, e]
theorem law_b2 {ns : List Int} {N R Q : List D} {m : Nat} (h : m < 1000000) (a4 a6 : Option En) : b_law_2 (lE ns N R Q a4 (some (.val (.int m))) a6) = some (.next (lE ns N R Q a4 (some (.val (.int m))) (some (.val (.int m))))) := by
  have e := e_number_in h
  have hf2 : m < FEW := by unfold FEW; omega
  have en := num_mk m
  have eq : fEq true (.int (m : Int)) (.int (m : Int)) = some (.bl false) := by
    have := fEq_of (neg := true) (x := .int (m : Int)) (y := .int (m : Int)) lay_int lay_int (by decide) (by decide) (eqv_int _ _)
    simpa using this
  simp [b_law_2, lE, hf2, en, e, sII, sIB, eq]
theorem math_law (ns : List Int) (hl : ns.length <= 63) : m_law [.val (.scr ns)] = some (.val (.bl true)) := by
  have c1 := e_l_cell ns 1
  have c2 := e_l_cell ns 2
  generalize ns.getD 1 0 = w1 at *
  generalize ns.getD 2 0 = w2 at *
  obtain ⟨many, hm⟩ : ∃ many : Nat, 1 + w2 % 6 = (many : Int) := ⟨(1 + w2 % 6).toNat, by omega⟩
  obtain ⟨xs, x1, x2, x3, x4⟩ := e_l_names w1 many (by omega)
  have hne : 0 < xs.length := by omega
  have hxl : xs.length <= 10 := by omega
  obtain ⟨rs, r1, r2, r3⟩ := e_l_rows ns x1 hne hxl
  obtain ⟨q, q1, q2, q3⟩ := e_l_queue ns x1 hne hxl
  obtain ⟨A, a1, a2, a3⟩ := cut_ex rnD rs none (some 1)
  obtain ⟨B, b1, b2, b3⟩ := cut_ex rnD rs (some (-1)) none
  obtain ⟨A', a1', a2', a3'⟩ := cut_ex tkD q none (some 1)
  obtain ⟨B', b1', b2', b3'⟩ := cut_ex tkD q (some (-1)) none
  obtain ⟨x0, e0, e0'⟩ := atI_pos (xs := xs) (a := 0) (by omega) (by omega)
  have hx0 : x0 ∈ xs := atI_mem e0
  have ea0 : atI (xs.map D.str) 0 = some (.str x0) := by rw [atI_map, e0]; rfl
  have one : ∀ r ∈ ([(999999, [])] : List RN), RowOk r := fun r hr => by
    rw [List.mem_singleton.mp hr]
    exact ⟨by decide, by decide, by simp, by simp⟩
  have oneQ : ∀ t ∈ ([(x0, 0)] : SI), TkR t := fun t ht => by
    rw [List.mem_singleton.mp ht]
    exact ⟨x1 x0 hx0, by show (0 : Int) <= 0; decide, by show (0 : Int) < 1000000; decide⟩
  have R1 := e_l_rows_right r1 (by omega)
  have R2 := e_l_rows_right (rs := A) (fun r hr => r1 r (a3 r hr)) (by omega)
  have R3 := e_l_rows_right (rs := B) (fun r hr => r1 r (b3 r hr)) (by omega)
  have R4 := e_l_rows_right (rs := []) (by simp) (by simp)
  have R5 := e_l_rows_right (rs := [(999999, [])]) one (by simp)
  have T1 := e_l_queue_right q1 (by omega)
  have T2 := e_l_queue_right (q := A') (fun r hr => q1 r (a3' r hr)) (by omega)
  have T3 := e_l_queue_right (q := B') (fun r hr => q1 r (b3' r hr)) (by omega)
  have T4 := e_l_queue_right (q := []) (by simp) (by simp)
  have T5 := e_l_queue_right (q := [(x0, 0)]) oneQ (by simp)
  rw [<- a1] at R2
  rw [<- b1] at R3
  rw [<- a1'] at T2
  rw [<- b1'] at T3
  have R4 : m_l_rows_right [.val (.lst [])] = some (.val (.bl true)) := R4
  have R5 : m_l_rows_right [.val (.lst [.tup [.int 999999, .lst []]])] = some (.val (.bl true)) := R5
  have T4 : m_l_queue_right [.val (.lst [])] = some (.val (.bl true)) := T4
  have T5 : m_l_queue_right [.val (.lst [.tup [.str x0, .int 0]])] = some (.val (.bl true)) := T5
  have hTr : (rs.map rnD).length <= TOP := by rw [List.length_map]; exact top_of (by omega)
  have hTq : (q.map tkD).length <= TOP := by rw [List.length_map]; exact top_of (by omega)
  have lcut : ∀ {α : Type} (l : List α) (a b : Option Int), (cutD l a b).length <= l.length := fun l a b => by
    obtain ⟨A, h1, h2, _⟩ := cut_ex id l a b
    rw [List.map_id] at h1
    rw [h1, List.map_id]; exact h2
  have ct := comp_t rs
  have cl := comp_l q
  have nums : ∀ v ∈ (rs.map (fun r : RN => r.1) ++ q.map (fun t : Str × Int => t.2)) ++ [0, 999999], ∃ m : Nat, v = (m : Int) /\ m < 1000000 := fun v hv => by
    rcases List.mem_append.mp hv with hv | hv
    · rcases List.mem_append.mp hv with hv | hv
      · obtain ⟨r, hr, rfl⟩ := List.mem_map.mp hv
        have h1 := (r1 r hr).lo
        have h2 := (r1 r hr).hi
        exact ⟨r.1.toNat, by omega, by omega⟩
      · obtain ⟨t, ht, rfl⟩ := List.mem_map.mp hv
        have h1 := (q1 t ht).lo
        have h2 := (q1 t ht).hi
        exact ⟨t.2.toNat, by omega, by omega⟩
    · rcases List.mem_cons.mp hv with rfl | hv
      · exact ⟨0, rfl, by decide⟩
      · rw [List.mem_singleton.mp hv]; exact ⟨999999, rfl, by decide⟩
  have hlT : ((rs.map (fun r : RN => r.1)).map D.int).length = rs.length := by simp
  have hlL : ((q.map (fun t : Str × Int => t.2)).map D.int).length = q.length := by simp
  have hnum : ((rs.map (fun r : RN => r.1) ++ q.map (fun t : Str × Int => t.2)) ++ [0, 999999]).map D.int = ((rs.map (fun r : RN => r.1)).map D.int ++ (q.map (fun t : Str × Int => t.2)).map D.int) ++ [.int 0, .int 999999] := by simp
  obtain ⟨ρ1, f1, y4, i1⟩ := for_inv (t := .name 4) (s := b_law_4) (I := fun ρ => ∃ y4 : Option En, ρ = lE ns (xs.map D.str) (rs.map rnD) (q.map tkD) y4 none none) [.lst (rs.map rnD), .lst (cutD (rs.map rnD) none (some 1)), .lst (cutD (rs.map rnD) (some (-1)) none), .lst [], .lst [.tup [.int 999999, .lst []]]] (fun d hd ρ hi => by
    obtain ⟨y4, rfl⟩ := hi
    have : m_l_rows_right [.val d] = some (.val (.bl true)) := by
      simp only [List.mem_cons, List.not_mem_nil, or_false] at hd
      rcases hd with rfl | rfl | rfl | rfl | rfl
      · exact R1
      · exact R2
      · exact R3
      · exact R4
      · exact R5
    exact ⟨_, _, rfl, law_b4 this none none, _, rfl⟩) (lE ns (xs.map D.str) (rs.map rnD) (q.map tkD) none none none) ⟨_, rfl⟩
  subst i1
  obtain ⟨ρ2, f2, z4, i2⟩ := for_inv (t := .name 4) (s := b_law_3) (I := fun ρ => ∃ y4 : Option En, ρ = lE ns (xs.map D.str) (rs.map rnD) (q.map tkD) y4 none none) [.lst (q.map tkD), .lst (cutD (q.map tkD) none (some 1)), .lst (cutD (q.map tkD) (some (-1)) none), .lst [], .lst [.tup [.str x0, .int 0]]] (fun d hd ρ hi => by
    obtain ⟨y4, rfl⟩ := hi
    have : m_l_queue_right [.val d] = some (.val (.bl true)) := by
      simp only [List.mem_cons, List.not_mem_nil, or_false] at hd
      rcases hd with rfl | rfl | rfl | rfl | rfl
      · exact T1
      · exact T2
      · exact T3
      · exact T4
      · exact T5
    exact ⟨_, _, rfl, law_b3 this none none, _, rfl⟩) (lE ns (xs.map D.str) (rs.map rnD) (q.map tkD) y4 none none) ⟨_, rfl⟩
  subst i2
  obtain ⟨ρ3, f3, z5, z6, i3⟩ := for_inv (t := .name 5) (s := b_law_2) (I := fun ρ => ∃ y5 y6 : Option En, ρ = lE ns (xs.map D.str) (rs.map rnD) (q.map tkD) z4 y5 y6) (((rs.map (fun r : RN => r.1) ++ q.map (fun t : Str × Int => t.2)) ++ [0, 999999]).map D.int) (fun d hd ρ hi => by
    obtain ⟨v, hv, rfl⟩ := List.mem_map.mp hd
    obtain ⟨m, rfl, hm'⟩ := nums v hv
    obtain ⟨y5, y6, rfl⟩ := hi
    exact ⟨_, _, rfl, law_b2 hm' z4 y6, _, _, rfl⟩) (lE ns (xs.map D.str) (rs.map rnD) (q.map tkD) z4 none none) ⟨_, _, rfl⟩
  subst i3
  rw [hnum] at f3
  have c1 : m_l_cell [.val (.scr ns), .val (.int 1)] = some (.val (.int w1)) := c1
  have c2 : m_l_cell [.val (.scr ns), .val (.int 2)] = some (.val (.int w2)) := c2
  have t5 : 5 <= TOP := by decide
  have t1 : 1 <= TOP := by decide
  have lc1 := Nat.le_trans (lcut (rs.map rnD) none (some 1)) hTr
  have lc2 := Nat.le_trans (lcut (rs.map rnD) (some (-1)) none) hTr
  have lc3 := Nat.le_trans (lcut (q.map tkD) none (some 1)) hTq
  have lc4 := Nat.le_trans (lcut (q.map tkD) (some (-1)) none) hTq
  have hs1 : rs.length + q.length <= TOP := top_of (by omega)
  have hs2 : rs.length + q.length + 2 <= TOP := top_of (by omega)
  have g : g_law [some (.val (.scr ns)), none, none, none, none, none, none] = some (.ret (.val (.bl true))) := by
    generalize xs.map D.str = XS at *
    generalize rs.map rnD = RR at *
    generalize q.map tkD = QQ at *
    generalize (rs.map (fun r : RN => r.1)).map D.int = TT at *
    generalize (q.map (fun t : Str × Int => t.2)).map D.int = LL at *
    unfold g_law
    refine set_step (d := .lst XS) (by simp [c1, c2, mod_ok, hm, x4]) ?_
    refine set_step (d := .lst RR) (by simp [r3]) ?_
    refine set_step (d := .lst QQ) (by simp [q3]) ?_
    refine for_step (ds := [.lst RR, .lst (cutD RR none (some 1)), .lst (cutD RR (some (-1)) none), .lst [], .lst [.tup [.int 999999, .lst []]]]) (ρ' := lE ns XS RR QQ y4 none none) (by simp [t5, t1, t2, hTr, lc1, lc2]) f1 ?_
    refine for_step (ds := [.lst QQ, .lst (cutD QQ none (some 1)), .lst (cutD QQ (some (-1)) none), .lst [], .lst [.tup [.str x0, .int 0]]]) (ρ' := lE ns XS RR QQ z4 none none) (by simp [lE, t5, t1, t2, hTq, lc3, lc4, ea0]) f2 ?_
    refine for_step (ds := (TT ++ LL) ++ [.int 0, .int 999999]) (ρ' := lE ns XS RR QQ z4 z5 z6) (by simp [lE, hTr, hTq, ct, cl, hlT, hlL, hs1, hs2, t2]) f3 ?_
    simp [lE]
  show outO (g_law [some (.val (.scr ns)), none, none, none, none, none, none]) = _
  rw [g]; rfl
end My
namespace My
open PySem PySem.Spec L2 L3 L4 Dv
open PyProof.Rows hiding St
def spOut (K : PySem.W.Frag) : Sp := fun vs H Q _ => ∃ (a : Addr) (ns : List Int), vs = [.ref a] /\ SqL K H a (ns.map V.int) /\ ns.length <= 63 /\ ∀ H', Q (.bl true) H'
theorem out_of {P : Program} {w : World} {K : PySem.W.Frag} {mg : Str -> Option Value} {base : Heap} {k : Nat} {f : Addr} {fd : FuncData} {ps : List Str} {m : List En -> Option En} (h : FnOk P w K mg base CX0 k f fd ps (pSp ⟨K, w⟩ 1 (len? 1 m)))
    (hm : ∀ ns : List Int, ns.length <= 63 -> m [.val (.scr ns)] = some (.val (.bl true))) : FnOk P w K mg base CX0 k f fd ps (spOut K) :=
  h.imp fun vs H Q E ⟨a, ns, e, hs, hl, q⟩ => ⟨H, [.val (.scr ns)], .val (.bl true), Same.refl _, rfl, by subst e; exact .cons ⟨a, rfl, hs⟩ .nil, hm ns hl, fun v F' H' _ r => by cases r; exact q H'⟩
set_option maxHeartbeats 0 in
theorem all_mk {l : PySem.W.OpenLaw} {w : World} {K : PySem.W.Frag} {h : Heap} {mg : Str -> Option Value} {fa : Addr} (X : K.In h) (G : h.Ns mainGlobals mg) (hfa : mg "law" = some (.ref fa))
    {f0 : Addr} {od0 an0 : Option Addr} {sl0 : Array (Option Value)} {oc0 kV0 dc0 pm0 cd0 ct0 : Value}
    {f1 : Addr} {od1 an1 : Option Addr} {sl1 : Array (Option Value)} {oc1 kV1 dc1 pm1 cd1 ct1 : Value}
    {f2 : Addr} {od2 an2 : Option Addr} {sl2 : Array (Option Value)} {oc2 kV2 dc2 pm2 cd2 ct2 : Value}
    {f3 : Addr} {od3 an3 : Option Addr} {sl3 : Array (Option Value)} {oc3 kV3 dc3 pm3 cd3 ct3 : Value}
    {f4 : Addr} {od4 an4 : Option Addr} {sl4 : Array (Option Value)} {oc4 kV4 dc4 pm4 cd4 ct4 : Value}
    {f5 : Addr} {od5 an5 : Option Addr} {sl5 : Array (Option Value)} {oc5 kV5 dc5 pm5 cd5 ct5 : Value}
    {f6 : Addr} {od6 an6 : Option Addr} {sl6 : Array (Option Value)} {oc6 kV6 dc6 pm6 cd6 ct6 : Value}
    {f7 : Addr} {od7 an7 : Option Addr} {sl7 : Array (Option Value)} {oc7 kV7 dc7 pm7 cd7 ct7 : Value}
    {f8 : Addr} {od8 an8 : Option Addr} {sl8 : Array (Option Value)} {oc8 kV8 dc8 pm8 cd8 ct8 : Value}
    {f9 : Addr} {od9 an9 : Option Addr} {sl9 : Array (Option Value)} {oc9 kV9 dc9 pm9 cd9 ct9 : Value}
    {f10 : Addr} {od10 an10 : Option Addr} {sl10 : Array (Option Value)} {oc10 kV10 dc10 pm10 cd10 ct10 : Value}
    {f11 : Addr} {od11 an11 : Option Addr} {sl11 : Array (Option Value)} {oc11 kV11 dc11 pm11 cd11 ct11 : Value}
    {f12 : Addr} {od12 an12 : Option Addr} {sl12 : Array (Option Value)} {oc12 kV12 dc12 pm12 cd12 ct12 : Value}
    {f13 : Addr} {od13 an13 : Option Addr} {sl13 : Array (Option Value)} {oc13 kV13 dc13 pm13 cd13 ct13 : Value}
    {f14 : Addr} {od14 an14 : Option Addr} {sl14 : Array (Option Value)} {oc14 kV14 dc14 pm14 cd14 ct14 : Value}
    {f15 : Addr} {od15 an15 : Option Addr} {sl15 : Array (Option Value)} {oc15 kV15 dc15 pm15 cd15 ct15 : Value}
    {f16 : Addr} {od16 an16 : Option Addr} {sl16 : Array (Option Value)} {oc16 kV16 dc16 pm16 cd16 ct16 : Value}
    {f17 : Addr} {od17 an17 : Option Addr} {sl17 : Array (Option Value)} {oc17 kV17 dc17 pm17 cd17 ct17 : Value}
    {f18 : Addr} {od18 an18 : Option Addr} {sl18 : Array (Option Value)} {oc18 kV18 dc18 pm18 cd18 ct18 : Value}
    {f19 : Addr} {od19 an19 : Option Addr} {sl19 : Array (Option Value)} {oc19 kV19 dc19 pm19 cd19 ct19 : Value}
    {f20 : Addr} {od20 an20 : Option Addr} {sl20 : Array (Option Value)} {oc20 kV20 dc20 pm20 cd20 ct20 : Value}
    {f21 : Addr} {od21 an21 : Option Addr} {sl21 : Array (Option Value)} {oc21 kV21 dc21 pm21 cd21 ct21 : Value}
    {t_FIGURES : Tok}
    {t_LETTERS : Tok}
    {t_MOST_FIGURES : Tok}
    {t_MOST_SIGNS : Tok}
    {t_NOTHING : Tok}
    (a0 : PySem.W.nsIn K mainGlobals "is_name" = some (some (.ref f0)))
    (l0 : K.lookup f0 = some ⟨oc0, od0, .func (PySem.W.fnOf "is_name" "is_name" (defArgs s_is_name) (defBody s_is_name) (defScope s_is_name) .none kV0 dc0 pm0 an0 cd0 ct0), sl0⟩)
    (c0 : PySem.W.codeIn K cd0 "is_name" = true)
    (k0 : PySem.W.keepIn K (.ref f0) = true)
    (a1 : PySem.W.nsIn K mainGlobals "number_in" = some (some (.ref f1)))
    (l1 : K.lookup f1 = some ⟨oc1, od1, .func (PySem.W.fnOf "number_in" "number_in" (defArgs s_number_in) (defBody s_number_in) (defScope s_number_in) .none kV1 dc1 pm1 an1 cd1 ct1), sl1⟩)
    (c1 : PySem.W.codeIn K cd1 "number_in" = true)
    (k1 : PySem.W.keepIn K (.ref f1) = true)
    (a2 : PySem.W.nsIn K mainGlobals "name_in" = some (some (.ref f2)))
    (l2 : K.lookup f2 = some ⟨oc2, od2, .func (PySem.W.fnOf "name_in" "name_in" (defArgs s_name_in) (defBody s_name_in) (defScope s_name_in) .none kV2 dc2 pm2 an2 cd2 ct2), sl2⟩)
    (c2 : PySem.W.codeIn K cd2 "name_in" = true)
    (k2 : PySem.W.keepIn K (.ref f2) = true)
    (a3 : PySem.W.nsIn K mainGlobals "parted" = some (some (.ref f3)))
    (l3 : K.lookup f3 = some ⟨oc3, od3, .func (PySem.W.fnOf "parted" "parted" (defArgs s_parted) (defBody s_parted) (defScope s_parted) .none kV3 dc3 pm3 an3 cd3 ct3), sl3⟩)
    (c3 : PySem.W.codeIn K cd3 "parted" = true)
    (k3 : PySem.W.keepIn K (.ref f3) = true)
    (a4 : PySem.W.nsIn K mainGlobals "row_text" = some (some (.ref f4)))
    (l4 : K.lookup f4 = some ⟨oc4, od4, .func (PySem.W.fnOf "row_text" "row_text" (defArgs s_row_text) (defBody s_row_text) (defScope s_row_text) .none kV4 dc4 pm4 an4 cd4 ct4), sl4⟩)
    (c4 : PySem.W.codeIn K cd4 "row_text" = true)
    (k4 : PySem.W.keepIn K (.ref f4) = true)
    (a5 : PySem.W.nsIn K mainGlobals "rows_text" = some (some (.ref f5)))
    (l5 : K.lookup f5 = some ⟨oc5, od5, .func (PySem.W.fnOf "rows_text" "rows_text" (defArgs s_rows_text) (defBody s_rows_text) (defScope s_rows_text) .none kV5 dc5 pm5 an5 cd5 ct5), sl5⟩)
    (c5 : PySem.W.codeIn K cd5 "rows_text" = true)
    (k5 : PySem.W.keepIn K (.ref f5) = true)
    (a6 : PySem.W.nsIn K mainGlobals "queue_text" = some (some (.ref f6)))
    (l6 : K.lookup f6 = some ⟨oc6, od6, .func (PySem.W.fnOf "queue_text" "queue_text" (defArgs s_queue_text) (defBody s_queue_text) (defScope s_queue_text) .none kV6 dc6 pm6 an6 cd6 ct6), sl6⟩)
    (c6 : PySem.W.codeIn K cd6 "queue_text" = true)
    (k6 : PySem.W.keepIn K (.ref f6) = true)
    (a7 : PySem.W.nsIn K mainGlobals "row_in" = some (some (.ref f7)))
    (l7 : K.lookup f7 = some ⟨oc7, od7, .func (PySem.W.fnOf "row_in" "row_in" (defArgs s_row_in) (defBody s_row_in) (defScope s_row_in) .none kV7 dc7 pm7 an7 cd7 ct7), sl7⟩)
    (c7 : PySem.W.codeIn K cd7 "row_in" = true)
    (k7 : PySem.W.keepIn K (.ref f7) = true)
    (a8 : PySem.W.nsIn K mainGlobals "rows_in" = some (some (.ref f8)))
    (l8 : K.lookup f8 = some ⟨oc8, od8, .func (PySem.W.fnOf "rows_in" "rows_in" (defArgs s_rows_in) (defBody s_rows_in) (defScope s_rows_in) .none kV8 dc8 pm8 an8 cd8 ct8), sl8⟩)
    (c8 : PySem.W.codeIn K cd8 "rows_in" = true)
    (k8 : PySem.W.keepIn K (.ref f8) = true)
    (a9 : PySem.W.nsIn K mainGlobals "ticket_in" = some (some (.ref f9)))
    (l9 : K.lookup f9 = some ⟨oc9, od9, .func (PySem.W.fnOf "ticket_in" "ticket_in" (defArgs s_ticket_in) (defBody s_ticket_in) (defScope s_ticket_in) .none kV9 dc9 pm9 an9 cd9 ct9), sl9⟩)
    (c9 : PySem.W.codeIn K cd9 "ticket_in" = true)
    (k9 : PySem.W.keepIn K (.ref f9) = true)
    (a10 : PySem.W.nsIn K mainGlobals "queue_in" = some (some (.ref f10)))
    (l10 : K.lookup f10 = some ⟨oc10, od10, .func (PySem.W.fnOf "queue_in" "queue_in" (defArgs s_queue_in) (defBody s_queue_in) (defScope s_queue_in) .none kV10 dc10 pm10 an10 cd10 ct10), sl10⟩)
    (c10 : PySem.W.codeIn K cd10 "queue_in" = true)
    (k10 : PySem.W.keepIn K (.ref f10) = true)
    (a11 : PySem.W.nsIn K mainGlobals "_law_cell" = some (some (.ref f11)))
    (l11 : K.lookup f11 = some ⟨oc11, od11, .func (PySem.W.fnOf "_law_cell" "_law_cell" (defArgs s_l_cell) (defBody s_l_cell) (defScope s_l_cell) .none kV11 dc11 pm11 an11 cd11 ct11), sl11⟩)
    (c11 : PySem.W.codeIn K cd11 "_law_cell" = true)
    (k11 : PySem.W.keepIn K (.ref f11) = true)
    (a12 : PySem.W.nsIn K mainGlobals "_law_stir" = some (some (.ref f12)))
    (l12 : K.lookup f12 = some ⟨oc12, od12, .func (PySem.W.fnOf "_law_stir" "_law_stir" (defArgs s_l_stir) (defBody s_l_stir) (defScope s_l_stir) .none kV12 dc12 pm12 an12 cd12 ct12), sl12⟩)
    (c12 : PySem.W.codeIn K cd12 "_law_stir" = true)
    (k12 : PySem.W.keepIn K (.ref f12) = true)
    (a13 : PySem.W.nsIn K mainGlobals "_law_row" = some (some (.ref f13)))
    (l13 : K.lookup f13 = some ⟨oc13, od13, .func (PySem.W.fnOf "_law_row" "_law_row" (defArgs s_l_row) (defBody s_l_row) (defScope s_l_row) .none kV13 dc13 pm13 an13 cd13 ct13), sl13⟩)
    (c13 : PySem.W.codeIn K cd13 "_law_row" = true)
    (k13 : PySem.W.keepIn K (.ref f13) = true)
    (a14 : PySem.W.nsIn K mainGlobals "_law_names" = some (some (.ref f14)))
    (l14 : K.lookup f14 = some ⟨oc14, od14, .func (PySem.W.fnOf "_law_names" "_law_names" (defArgs s_l_names) (defBody s_l_names) (defScope s_l_names) .none kV14 dc14 pm14 an14 cd14 ct14), sl14⟩)
    (c14 : PySem.W.codeIn K cd14 "_law_names" = true)
    (k14 : PySem.W.keepIn K (.ref f14) = true)
    (a15 : PySem.W.nsIn K mainGlobals "_law_rows" = some (some (.ref f15)))
    (l15 : K.lookup f15 = some ⟨oc15, od15, .func (PySem.W.fnOf "_law_rows" "_law_rows" (defArgs s_l_rows) (defBody s_l_rows) (defScope s_l_rows) .none kV15 dc15 pm15 an15 cd15 ct15), sl15⟩)
    (c15 : PySem.W.codeIn K cd15 "_law_rows" = true)
    (k15 : PySem.W.keepIn K (.ref f15) = true)
    (a16 : PySem.W.nsIn K mainGlobals "_law_queue" = some (some (.ref f16)))
    (l16 : K.lookup f16 = some ⟨oc16, od16, .func (PySem.W.fnOf "_law_queue" "_law_queue" (defArgs s_l_queue) (defBody s_l_queue) (defScope s_l_queue) .none kV16 dc16 pm16 an16 cd16 ct16), sl16⟩)
    (c16 : PySem.W.codeIn K cd16 "_law_queue" = true)
    (k16 : PySem.W.keepIn K (.ref f16) = true)
    (a17 : PySem.W.nsIn K mainGlobals "_law_rows_text" = some (some (.ref f17)))
    (l17 : K.lookup f17 = some ⟨oc17, od17, .func (PySem.W.fnOf "_law_rows_text" "_law_rows_text" (defArgs s_l_rows_text) (defBody s_l_rows_text) (defScope s_l_rows_text) .none kV17 dc17 pm17 an17 cd17 ct17), sl17⟩)
    (c17 : PySem.W.codeIn K cd17 "_law_rows_text" = true)
    (k17 : PySem.W.keepIn K (.ref f17) = true)
    (a18 : PySem.W.nsIn K mainGlobals "_law_queue_text" = some (some (.ref f18)))
    (l18 : K.lookup f18 = some ⟨oc18, od18, .func (PySem.W.fnOf "_law_queue_text" "_law_queue_text" (defArgs s_l_queue_text) (defBody s_l_queue_text) (defScope s_l_queue_text) .none kV18 dc18 pm18 an18 cd18 ct18), sl18⟩)
    (c18 : PySem.W.codeIn K cd18 "_law_queue_text" = true)
    (k18 : PySem.W.keepIn K (.ref f18) = true)
    (a19 : PySem.W.nsIn K mainGlobals "_law_rows_right" = some (some (.ref f19)))
    (l19 : K.lookup f19 = some ⟨oc19, od19, .func (PySem.W.fnOf "_law_rows_right" "_law_rows_right" (defArgs s_l_rows_right) (defBody s_l_rows_right) (defScope s_l_rows_right) .none kV19 dc19 pm19 an19 cd19 ct19), sl19⟩)
    (c19 : PySem.W.codeIn K cd19 "_law_rows_right" = true)
    (k19 : PySem.W.keepIn K (.ref f19) = true)
    (a20 : PySem.W.nsIn K mainGlobals "_law_queue_right" = some (some (.ref f20)))
    (l20 : K.lookup f20 = some ⟨oc20, od20, .func (PySem.W.fnOf "_law_queue_right" "_law_queue_right" (defArgs s_l_queue_right) (defBody s_l_queue_right) (defScope s_l_queue_right) .none kV20 dc20 pm20 an20 cd20 ct20), sl20⟩)
    (c20 : PySem.W.codeIn K cd20 "_law_queue_right" = true)
    (k20 : PySem.W.keepIn K (.ref f20) = true)
    (a21 : PySem.W.nsIn K mainGlobals "law" = some (some (.ref f21)))
    (l21 : K.lookup f21 = some ⟨oc21, od21, .func (PySem.W.fnOf "law" "law" (defArgs s_law) (defBody s_law) (defScope s_law) .none kV21 dc21 pm21 an21 cd21 ct21), sl21⟩)
    (c21 : PySem.W.codeIn K cd21 "law" = true)
    (k21 : PySem.W.keepIn K (.ref f21) = true)
    (b_all : PySem.W.nsIn K mainGlobals "all" = some none)
    (b_bool : PySem.W.nsIn K mainGlobals "bool" = some none)
    (b_int : PySem.W.nsIn K mainGlobals "int" = some none)
    (b_isinstance : PySem.W.nsIn K mainGlobals "isinstance" = some none)
    (b_len : PySem.W.nsIn K mainGlobals "len" = some none)
    (b_list : PySem.W.nsIn K mainGlobals "list" = some none)
    (b_range : PySem.W.nsIn K mainGlobals "range" = some none)
    (b_str : PySem.W.nsIn K mainGlobals "str" = some none)
    (b_tuple : PySem.W.nsIn K mainGlobals "tuple" = some none)
    (b_zip : PySem.W.nsIn K mainGlobals "zip" = some none)
    (c_FIGURES : PySem.W.nsIn K mainGlobals "FIGURES" = some (some (.str "0123456789" t_FIGURES)))
    (c_LETTERS : PySem.W.nsIn K mainGlobals "LETTERS" = some (some (.str "abcdefghijklmnopqrstuvwxyz" t_LETTERS)))
    (c_MOST_FIGURES : PySem.W.nsIn K mainGlobals "MOST_FIGURES" = some (some (.int 6 t_MOST_FIGURES)))
    (c_MOST_SIGNS : PySem.W.nsIn K mainGlobals "MOST_SIGNS" = some (some (.int 8 t_MOST_SIGNS)))
    (c_NOTHING : PySem.W.nsIn K mainGlobals "NOTHING" = some (some (.str "-" t_NOTHING)))
    : ∃ fd : FuncData, (∀ (s : Shared) (v : Value), BindsTo s fd ⟨[v], []⟩ [("_law_script", v)]) /\ ∀ base : Heap, K.In base -> base.Ns mainGlobals mg -> FnOk l.prog w K mg base CX0 6 fa fd ["_law_script"] (spOut K) := by
  have e := hfa.symm.trans (PySem.W.mg_of X G a21)
  cases e
  have T : Txt K mg 0 := ⟨PySem.W.mg_none_of X G b_all, PySem.W.mg_none_of X G b_bool, PySem.W.mg_none_of X G b_int, PySem.W.mg_none_of X G b_isinstance, PySem.W.mg_none_of X G b_len, PySem.W.mg_none_of X G b_list, PySem.W.mg_none_of X G b_range, PySem.W.mg_none_of X G b_str, PySem.W.mg_none_of X G b_tuple, PySem.W.mg_none_of X G b_zip, ⟨_, PySem.W.mg_of X G c_FIGURES⟩, ⟨_, PySem.W.mg_of X G c_LETTERS⟩, ⟨_, PySem.W.mg_of X G c_MOST_FIGURES⟩, ⟨_, PySem.W.mg_of X G c_MOST_SIGNS⟩, ⟨_, PySem.W.mg_of X G c_NOTHING⟩⟩
  have F0 := fun_mk (st := s_is_name) l0 c0 k0
  have bb0 := F0.binds (ps := ["thing"]) fun _ _ _ _ _ _ us hl => match us, hl with | [_], _ => rfl
  have F1 := fun_mk (st := s_number_in) l1 c1 k1
  have bb1 := F1.binds (ps := ["word"]) fun _ _ _ _ _ _ us hl => match us, hl with | [_], _ => rfl
  have F2 := fun_mk (st := s_name_in) l2 c2 k2
  have bb2 := F2.binds (ps := ["word"]) fun _ _ _ _ _ _ us hl => match us, hl with | [_], _ => rfl
  have F3 := fun_mk (st := s_parted) l3 c3 k3
  have bb3 := F3.binds (ps := ["pieces", "sign"]) fun _ _ _ _ _ _ us hl => match us, hl with | [_, _], _ => rfl
  have F4 := fun_mk (st := s_row_text) l4 c4 k4
  have bb4 := F4.binds (ps := ["turn", "names"]) fun _ _ _ _ _ _ us hl => match us, hl with | [_, _], _ => rfl
  have F5 := fun_mk (st := s_rows_text) l5 c5 k5
  have bb5 := F5.binds (ps := ["rows"]) fun _ _ _ _ _ _ us hl => match us, hl with | [_], _ => rfl
  have F6 := fun_mk (st := s_queue_text) l6 c6 k6
  have bb6 := F6.binds (ps := ["queue"]) fun _ _ _ _ _ _ us hl => match us, hl with | [_], _ => rfl
  have F7 := fun_mk (st := s_row_in) l7 c7 k7
  have bb7 := F7.binds (ps := ["text"]) fun _ _ _ _ _ _ us hl => match us, hl with | [_], _ => rfl
  have F8 := fun_mk (st := s_rows_in) l8 c8 k8
  have bb8 := F8.binds (ps := ["text"]) fun _ _ _ _ _ _ us hl => match us, hl with | [_], _ => rfl
  have F9 := fun_mk (st := s_ticket_in) l9 c9 k9
  have bb9 := F9.binds (ps := ["text"]) fun _ _ _ _ _ _ us hl => match us, hl with | [_], _ => rfl
  have F10 := fun_mk (st := s_queue_in) l10 c10 k10
  have bb10 := F10.binds (ps := ["text"]) fun _ _ _ _ _ _ us hl => match us, hl with | [_], _ => rfl
  have F11 := fun_mk (st := s_l_cell) l11 c11 k11
  have bb11 := F11.binds (ps := ["_law_script", "_law_k"]) fun _ _ _ _ _ _ us hl => match us, hl with | [_, _], _ => rfl
  have F12 := fun_mk (st := s_l_stir) l12 c12 k12
  have bb12 := F12.binds (ps := ["_law_cell_here", "_law_k"]) fun _ _ _ _ _ _ us hl => match us, hl with | [_, _], _ => rfl
  have F13 := fun_mk (st := s_l_row) l13 c13 k13
  have bb13 := F13.binds (ps := ["_law_script", "_law_at", "_law_base", "_law_count"]) fun _ _ _ _ _ _ us hl => match us, hl with | [_, _, _, _], _ => rfl
  have F14 := fun_mk (st := s_l_names) l14 c14 k14
  have bb14 := F14.binds (ps := ["_law_cell_here", "_law_many"]) fun _ _ _ _ _ _ us hl => match us, hl with | [_, _], _ => rfl
  have F15 := fun_mk (st := s_l_rows) l15 c15 k15
  have bb15 := F15.binds (ps := ["_law_script", "_law_names_here"]) fun _ _ _ _ _ _ us hl => match us, hl with | [_, _], _ => rfl
  have F16 := fun_mk (st := s_l_queue) l16 c16 k16
  have bb16 := F16.binds (ps := ["_law_script", "_law_names_here"]) fun _ _ _ _ _ _ us hl => match us, hl with | [_, _], _ => rfl
  have F17 := fun_mk (st := s_l_rows_text) l17 c17 k17
  have bb17 := F17.binds (ps := ["_law_rows_here"]) fun _ _ _ _ _ _ us hl => match us, hl with | [_], _ => rfl
  have F18 := fun_mk (st := s_l_queue_text) l18 c18 k18
  have bb18 := F18.binds (ps := ["_law_queue_here"]) fun _ _ _ _ _ _ us hl => match us, hl with | [_], _ => rfl
  have F19 := fun_mk (st := s_l_rows_right) l19 c19 k19
  have bb19 := F19.binds (ps := ["_law_rows_here"]) fun _ _ _ _ _ _ us hl => match us, hl with | [_], _ => rfl
  have F20 := fun_mk (st := s_l_queue_right) l20 c20 k20
  have bb20 := F20.binds (ps := ["_law_queue_here"]) fun _ _ _ _ _ _ us hl => match us, hl with | [_], _ => rfl
  have F21 := fun_mk (st := s_law) l21 c21 k21
  refine ⟨PySem.W.fnOf "law" "law" (defArgs s_law) (defBody s_law) (defScope s_law) .none kV21 dc21 pm21 an21 cd21 ct21, fun s v => .of_eq rfl, fun base _ _ => ?_⟩
  have h_is_name : Fx l.prog w K mg base "is_name" 1 1 m_is_name := ⟨f0, _, _, ok_is_name (P := l.prog) (w := w) (base := base) T F0, PySem.W.mg_of X G a0, k0, bb0⟩
  have h_number_in : Fx l.prog w K mg base "number_in" 1 1 m_number_in := ⟨f1, _, _, ok_number_in (P := l.prog) (w := w) (base := base) T F1, PySem.W.mg_of X G a1, k1, bb1⟩
  have h_name_in : Fx l.prog w K mg base "name_in" 2 1 m_name_in := ⟨f2, _, _, ok_name_in (P := l.prog) (w := w) (base := base) T F2 h_is_name, PySem.W.mg_of X G a2, k2, bb2⟩
  have h_parted : Fx l.prog w K mg base "parted" 1 2 m_parted := ⟨f3, _, _, ok_parted (P := l.prog) (w := w) (base := base) T F3, PySem.W.mg_of X G a3, k3, bb3⟩
  have h_row_text : Fx l.prog w K mg base "row_text" 1 2 m_row_text := ⟨f4, _, _, ok_row_text (P := l.prog) (w := w) (base := base) T F4, PySem.W.mg_of X G a4, k4, bb4⟩
  have h_rows_text : Fx l.prog w K mg base "rows_text" 2 1 m_rows_text := ⟨f5, _, _, ok_rows_text (P := l.prog) (w := w) (base := base) T F5 h_parted h_row_text, PySem.W.mg_of X G a5, k5, bb5⟩
  have h_queue_text : Fx l.prog w K mg base "queue_text" 2 1 m_queue_text := ⟨f6, _, _, ok_queue_text (P := l.prog) (w := w) (base := base) T F6 h_parted, PySem.W.mg_of X G a6, k6, bb6⟩
  have h_row_in : Fx l.prog w K mg base "row_in" 3 1 m_row_in := ⟨f7, _, _, ok_row_in (P := l.prog) (w := w) (base := base) T F7 h_name_in h_number_in, PySem.W.mg_of X G a7, k7, bb7⟩
  have h_rows_in : Fx l.prog w K mg base "rows_in" 4 1 m_rows_in := ⟨f8, _, _, ok_rows_in (P := l.prog) (w := w) (base := base) T F8 h_row_in, PySem.W.mg_of X G a8, k8, bb8⟩
  have h_ticket_in : Fx l.prog w K mg base "ticket_in" 3 1 m_ticket_in := ⟨f9, _, _, ok_ticket_in (P := l.prog) (w := w) (base := base) T F9 h_number_in h_name_in, PySem.W.mg_of X G a9, k9, bb9⟩
  have h_queue_in : Fx l.prog w K mg base "queue_in" 4 1 m_queue_in := ⟨f10, _, _, ok_queue_in (P := l.prog) (w := w) (base := base) T F10 h_ticket_in, PySem.W.mg_of X G a10, k10, bb10⟩
  have h_l_cell : Fx l.prog w K mg base "_law_cell" 1 2 m_l_cell := ⟨f11, _, _, ok_l_cell (P := l.prog) (w := w) (base := base) T F11, PySem.W.mg_of X G a11, k11, bb11⟩
  have h_l_stir : Fx l.prog w K mg base "_law_stir" 1 2 m_l_stir := ⟨f12, _, _, ok_l_stir (P := l.prog) (w := w) (base := base) T F12, PySem.W.mg_of X G a12, k12, bb12⟩
  have h_l_row : Fx l.prog w K mg base "_law_row" 2 4 m_l_row := ⟨f13, _, _, ok_l_row (P := l.prog) (w := w) (base := base) T F13 h_l_cell h_l_stir, PySem.W.mg_of X G a13, k13, bb13⟩
  have h_l_names : Fx l.prog w K mg base "_law_names" 1 2 m_l_names := ⟨f14, _, _, ok_l_names (P := l.prog) (w := w) (base := base) T F14, PySem.W.mg_of X G a14, k14, bb14⟩
  have h_l_rows : Fx l.prog w K mg base "_law_rows" 3 2 m_l_rows := ⟨f15, _, _, ok_l_rows (P := l.prog) (w := w) (base := base) T F15 h_l_row h_l_cell, PySem.W.mg_of X G a15, k15, bb15⟩
  have h_l_queue : Fx l.prog w K mg base "_law_queue" 3 2 m_l_queue := ⟨f16, _, _, ok_l_queue (P := l.prog) (w := w) (base := base) T F16 h_l_row h_l_cell, PySem.W.mg_of X G a16, k16, bb16⟩
  have h_l_rows_text : Fx l.prog w K mg base "_law_rows_text" 1 1 m_l_rows_text := ⟨f17, _, _, ok_l_rows_text (P := l.prog) (w := w) (base := base) T F17, PySem.W.mg_of X G a17, k17, bb17⟩
  have h_l_queue_text : Fx l.prog w K mg base "_law_queue_text" 1 1 m_l_queue_text := ⟨f18, _, _, ok_l_queue_text (P := l.prog) (w := w) (base := base) T F18, PySem.W.mg_of X G a18, k18, bb18⟩
  have h_l_rows_right : Fx l.prog w K mg base "_law_rows_right" 5 1 m_l_rows_right := ⟨f19, _, _, ok_l_rows_right (P := l.prog) (w := w) (base := base) T F19 h_rows_in h_rows_text h_l_rows_text, PySem.W.mg_of X G a19, k19, bb19⟩
  have h_l_queue_right : Fx l.prog w K mg base "_law_queue_right" 5 1 m_l_queue_right := ⟨f20, _, _, ok_l_queue_right (P := l.prog) (w := w) (base := base) T F20 h_queue_in h_queue_text h_l_queue_text, PySem.W.mg_of X G a20, k20, bb20⟩
  exact out_of (ok_law (P := l.prog) (w := w) (base := base) T F21 h_number_in h_l_queue_right h_l_rows_right h_l_queue h_l_rows h_l_names h_l_cell) (fun ns hl => math_law  ns hl)
theorem walk {l : PySem.W.OpenLaw} {q : Program} {loose : List Str} {XP : (Str -> Option Value) -> Heap -> Prop} {YP : World -> Heap -> Prop} {d : DefRec} {K : Params -> PySem.W.Frag} (hn : l.most = some 63) (hdf : d.params.defaults = [])
    (hY : ∀ (w : World) (h : Heap), YP w h -> (K w.params).In h)
    (F : ∀ (w : World) (mg : Str -> Option Value) (fa : Addr) (h : Heap), (K w.params).In h -> h.Ns mainGlobals mg -> mg d.name = some (.ref fa) ->
      ∃ fd : FuncData, (∀ (s : Shared) (u : Value), BindsTo s fd ⟨[u], []⟩ [("_law_script", u)]) /\ ∀ base : Heap, (K w.params).In base -> base.Ns mainGlobals mg -> FnOk l.prog w (K w.params) mg base CX0 6 fa fd ["_law_script"] (spOut (K w.params))) :
    PySem.W.WalkO q loose XP YP l.row.toRowW d [] (fun f vs => PySem.call f vs) :=
  L2.walk_of (n := 63) (k := 6) (x := "_law_script") (CX := fun _ => CX0) (sp := fun w => spOut (K w.params)) hn (by decide) hdf ⟨rfl, by decide, by decide⟩ hY F (fun _ _ a ns hl _ hS => ⟨a, ns, rfl, hS, hl, fun _ => rfl⟩) fun _ _ _ _ _ z => z
end My
def PySem.W.Fast.tw11494779296841873409 : Unit := ()
def PySem.W.Fast.tw18182370218556539105 : Unit := ()
def PySem.W.Fast.tw14872121956488188807 : Unit := ()
def PySem.W.Fast.tw689332874723471979 : Unit := ()
def PySem.W.Fast.tw633655222867953132 : Unit := ()
def PySem.W.Fast.tw5890048611451054387 : Unit := ()
def PySem.W.Fast.tw9401309998729075668 : Unit := ()
def PySem.W.Fast.tw5729562737868687638 : Unit := ()
open PySem PySem.W PyProof.Rows
set_option maxRecDepth 100000 in
set_option maxHeartbeats 0 in
theorem PySem.Challenge.cw_latestturn_k85_texts_told_and_read_holds : PySem.Challenge.rw_latestturn_k85_texts_told_and_read.Holds := by
  w_on; o_law; k_head; (case hw => w_witness2)
  k_fill
  refine My.walk (l := PySem.Challenge.rw_latestturn_k85_texts_told_and_read) rfl rfl (fun w h Y => PySem.W.kIn_of Y) ?F
  case F =>
    intro w mg fa h KX G hmg
    refine' My.all_mk KX G hmg ?a0 ?l0 ?c0 ?k0 ?a1 ?l1 ?c1 ?k1 ?a2 ?l2 ?c2 ?k2 ?a3 ?l3 ?c3 ?k3 ?a4 ?l4 ?c4 ?k4 ?a5 ?l5 ?c5 ?k5 ?a6 ?l6 ?c6 ?k6 ?a7 ?l7 ?c7 ?k7 ?a8 ?l8 ?c8 ?k8 ?a9 ?l9 ?c9 ?k9 ?a10 ?l10 ?c10 ?k10 ?a11 ?l11 ?c11 ?k11 ?a12 ?l12 ?c12 ?k12 ?a13 ?l13 ?c13 ?k13 ?a14 ?l14 ?c14 ?k14 ?a15 ?l15 ?c15 ?k15 ?a16 ?l16 ?c16 ?k16 ?a17 ?l17 ?c17 ?k17 ?a18 ?l18 ?c18 ?k18 ?a19 ?l19 ?c19 ?k19 ?a20 ?l20 ?c20 ?k20 ?a21 ?l21 ?c21 ?k21 ?b_all ?b_bool ?b_int ?b_isinstance ?b_len ?b_list ?b_range ?b_str ?b_tuple ?b_zip ?c_FIGURES ?c_LETTERS ?c_MOST_FIGURES ?c_MOST_SIGNS ?c_NOTHING
    (case a0 => k_is)
    (case l0 => k_is)
    (case c0 => k_is)
    (case k0 => k_is)
    (case a1 => k_is)
    (case l1 => k_is)
    (case c1 => k_is)
    (case k1 => k_is)
    (case a2 => k_is)
    (case l2 => k_is)
    (case c2 => k_is)
    (case k2 => k_is)
    (case a3 => k_is)
    (case l3 => k_is)
    (case c3 => k_is)
    (case k3 => k_is)
    (case a4 => k_is)
    (case l4 => k_is)
    (case c4 => k_is)
    (case k4 => k_is)
    (case a5 => k_is)
    (case l5 => k_is)
    (case c5 => k_is)
    (case k5 => k_is)
    (case a6 => k_is)
    (case l6 => k_is)
    (case c6 => k_is)
    (case k6 => k_is)
    (case a7 => k_is)
    (case l7 => k_is)
    (case c7 => k_is)
    (case k7 => k_is)
    (case a8 => k_is)
    (case l8 => k_is)
    (case c8 => k_is)
    (case k8 => k_is)
    (case a9 => k_is)
    (case l9 => k_is)
    (case c9 => k_is)
    (case k9 => k_is)
    (case a10 => k_is)
    (case l10 => k_is)
    (case c10 => k_is)
    (case k10 => k_is)
    (case a11 => k_is)
    (case l11 => k_is)
    (case c11 => k_is)
    (case k11 => k_is)
    (case a12 => k_is)
    (case l12 => k_is)
    (case c12 => k_is)
    (case k12 => k_is)
    (case a13 => k_is)
    (case l13 => k_is)
    (case c13 => k_is)
    (case k13 => k_is)
    (case a14 => k_is)
    (case l14 => k_is)
    (case c14 => k_is)
    (case k14 => k_is)
    (case a15 => k_is)
    (case l15 => k_is)
    (case c15 => k_is)
    (case k15 => k_is)
    (case a16 => k_is)
    (case l16 => k_is)
    (case c16 => k_is)
    (case k16 => k_is)
    (case a17 => k_is)
    (case l17 => k_is)
    (case c17 => k_is)
    (case k17 => k_is)
    (case a18 => k_is)
    (case l18 => k_is)
    (case c18 => k_is)
    (case k18 => k_is)
    (case a19 => k_is)
    (case l19 => k_is)
    (case c19 => k_is)
    (case k19 => k_is)
    (case a20 => k_is)
    (case l20 => k_is)
    (case c20 => k_is)
    (case k20 => k_is)
    (case a21 => k_is)
    (case l21 => k_is)
    (case c21 => k_is)
    (case k21 => k_is)
    (case b_all => k_is)
    (case b_bool => k_is)
    (case b_int => k_is)
    (case b_isinstance => k_is)
    (case b_len => k_is)
    (case b_list => k_is)
    (case b_range => k_is)
    (case b_str => k_is)
    (case b_tuple => k_is)
    (case b_zip => k_is)
    (case c_FIGURES => k_is)
    (case c_LETTERS => k_is)
    (case c_MOST_FIGURES => k_is)
    (case c_MOST_SIGNS => k_is)
    (case c_NOTHING => k_is)
#print axioms PySem.Challenge.cw_latestturn_k85_texts_told_and_read_holds
end

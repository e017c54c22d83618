import PyProof.Rows.All
import Wide.All
import OpenK.AllK
import Wide.FinOn
import Lean
import PyProof.EqAt
import PyProof.EqKinds
import PyProof.TupleCall
import KE.KPairComp
import PyProof.SumWalkG
import PyProof.WalkInts
import PyProof.Rows.SortStr
import PyProof.Rows.SortWalk
import PyProof.NeKinds
import KE.KIntText
import PyProof.Rows.FStr
import PyProof.Rows.StrNews2
import PyProof.CallStr
import PyProof.StrLawsChain
import PySem.Challenge.RW_latestturn_k11_queues_refused
set_option Elab.async false
set_option linter.all false
set_option maxRecDepth 100000
set_option maxHeartbeats 4000000
noncomputable section
namespace L2
open PySem PySem.Spec PyProof.Rows
abbrev Key := Sum Int Str
def keyIs : Key -> Value -> Bool
  | .inl k, v => Value.isInt k v
  | .inr x, v => Value.isStrOf x v
def keyH (w : World) : Key -> Int
  | .inl k => hashInt k
  | .inr x => hashStr w x
theorem keyIs_shape : ∀ {k : Key} {v : Value}, keyIs k v = true -> (∃ i t, k = Sum.inl i /\ v = Value.int i t) ∨ (∃ x t, k = Sum.inr x /\ v = Value.str x t)
  | .inl i, v, h => by
    obtain ⟨t, e⟩ := Value.isInt_shape (k := i) (v := v) h
    exact .inl ⟨i, t, rfl, e⟩
  | .inr x, v, h => by
    obtain ⟨t, e⟩ := Value.isStrOf_shape (x := x) (v := v) h
    exact .inr ⟨x, t, rfl, e⟩
theorem keyIs_int (i : Int) (t : Tok) : keyIs (.inl i) (.int i t) = true := by simp [keyIs, Value.isInt]
theorem keyIs_str (x : Str) (t : Tok) : keyIs (.inr x) (.str x t) = true := by simp [keyIs, Value.isStrOf]
theorem key_ll (a b : Int) : decide ((Sum.inl a : Key) = Sum.inl b) = (a == b) := by
  by_cases e : a = b
  · subst e; simp
  · have h : ¬ (Sum.inl a : Key) = Sum.inl b := fun q => e (Sum.inl.inj q)
    rw [decide_eq_false h]
    exact (beq_eq_false_iff_ne.mpr e).symm
theorem key_rr (a b : Str) : decide ((Sum.inr a : Key) = Sum.inr b) = decide (a = b) := by
  by_cases e : a = b
  · subst e; simp
  · have h : ¬ (Sum.inr a : Key) = Sum.inr b := fun q => e (Sum.inr.inj q)
    rw [decide_eq_false h, decide_eq_false e]
theorem key_lr (a : Int) (b : Str) : decide ((Sum.inl a : Key) = Sum.inr b) = false := decide_eq_false (fun q => nomatch q)
theorem key_rl (a : Str) (b : Int) : decide ((Sum.inr a : Key) = Sum.inl b) = false := decide_eq_false (fun q => nomatch q)
def mixKind (prog : Program) (w : World) : PySem.KeyKind prog w Key where
  is := keyIs
  hash := keyH w
  inj := fun v a b ha hb => by
    rcases keyIs_shape ha with ⟨i, t, rfl, rfl⟩ | ⟨x, t, rfl, rfl⟩
    · rcases keyIs_shape hb with ⟨j, u, rfl, e⟩ | ⟨y, u, rfl, e⟩
      · injection e with e1 _; rw [e1]
      · exact nomatch e
    · rcases keyIs_shape hb with ⟨j, u, rfl, e⟩ | ⟨y, u, rfl, e⟩
      · exact nomatch e
      · injection e with e1 _; rw [e1]
  byValue := fun k v h => by
    rcases keyIs_shape h with ⟨i, t, rfl, rfl⟩ | ⟨x, t, rfl, rfl⟩ <;> rfl
  pyHash := fun hv h => by
    rcases keyIs_shape hv with ⟨i, t, rfl, rfl⟩ | ⟨x, t, rfl, rfl⟩
    · exact wpAny_pyHash_int h
    · exact wpAny_pyHash_str h
  eqBool := fun hu hv h => by
    rcases keyIs_shape hu with ⟨i, t, rfl, rfl⟩ | ⟨x, t, rfl, rfl⟩
    · rcases keyIs_shape hv with ⟨j, u, rfl, rfl⟩ | ⟨y, u, rfl, rfl⟩
      · rw [key_ll] at h; exact wpAny_eqBool_int h
      · rw [key_lr] at h; exact SeqAt.EqAt.int_str i t y u _ _ _ _ h
    · rcases keyIs_shape hv with ⟨j, u, rfl, rfl⟩ | ⟨y, u, rfl, rfl⟩
      · rw [key_rl] at h; exact SeqAt.EqAt.str_int x t j u _ _ _ _ h
      · rw [key_rr] at h; exact wpAny_eqBool_str h
  «strs» := fun k x t v h => by
    rcases keyIs_shape h with ⟨i, u, rfl, e⟩ | ⟨y, u, rfl, e⟩
    · exact nomatch e
    · injection e with e1 _
      subst e1
      cases v <;> rfl
theorem mixKind_int (prog : Program) (w : World) (i : Int) (t : Tok) : (mixKind prog w).is (.inl i) (.int i t) = true := keyIs_int i t
theorem mixKind_str (prog : Program) (w : World) (x : Str) (t : Tok) : (mixKind prog w).is (.inr x) (.str x t) = true := keyIs_str x t
inductive V where
  | non | bl (b : Bool) | int (i : Int) | str (x : Str) | byt (b : Array UInt8) | flt (b : UInt64) | ref (a : Addr) | ty (n : String)
  deriving DecidableEq
def RelV : V -> Value -> Prop
  | .non, u => u = Value.none
  | .bl b, u => u = Value.bool b
  | .int i, u => ∃ t, u = Value.int i t
  | .str x, u => ∃ t, u = Value.str x t
  | .byt b, u => ∃ t, u = Value.bytes b t
  | .flt b, u => ∃ t, u = Value.float b t
  | .ref a, u => u = Value.ref a
  | .ty n, u => u = Value.type n
abbrev Vals : List V -> List Value -> Prop := Paired RelV
theorem Vals.length {xs : List V} {us : List Value} (r : Vals xs us) : xs.length = us.length := Paired.length r
theorem Vals.get : ∀ {xs : List V} {us : List Value} {i : Nat} {x : V}, Vals xs us -> xs[i]? = some x -> ∃ u, us[i]? = some u /\ RelV x u
  | _, _, _, _, .nil, e => by simp at e
  | _, _, 0, _, .cons r _, e => by simp at e; subst e; exact ⟨_, rfl, r⟩
  | _, _, i + 1, x, .cons _ t, e => by
    obtain ⟨u, h1, h2⟩ := Vals.get (i := i) (x := x) t (by simpa using e)
    exact ⟨u, by simpa using h1, h2⟩
theorem Vals.append : ∀ {xs ys : List V} {us ws : List Value}, Vals xs us -> Vals ys ws -> Vals (xs ++ ys) (us ++ ws)
  | _, _, _, _, .nil, s => s
  | _, _, _, _, .cons r t, s => .cons r (Vals.append t s)
theorem Vals.take : ∀ {xs : List V} {us : List Value} (n : Nat), Vals xs us -> Vals (xs.take n) (us.take n)
  | _, _, 0, _ => .nil
  | _, _, _ + 1, .nil => .nil
  | _, _, n + 1, .cons r t => .cons r (Vals.take n t)
theorem Vals.drop : ∀ {xs : List V} {us : List Value} (n : Nat), Vals xs us -> Vals (xs.drop n) (us.drop n)
  | _, _, 0, r => r
  | _, _, _ + 1, .nil => .nil
  | _, _, n + 1, .cons _ t => Vals.drop n t
def RelO : Option V -> Option Value -> Prop
  | some v, some u => RelV v u
  | none, none => True
  | _, _ => False
def KV {κ : Type} : List (κ × V) -> List (κ × Value) -> Prop := Paired fun (p : κ × V) (q : κ × Value) => p.1 = q.1 /\ RelV p.2 q.2
def kV : Key -> V
  | .inl i => .int i
  | .inr x => .str x
inductive HO where
    | lst (xs : List V)
    | tup (xs : List V)
    | dK (kvs : List (Key × V)) | dT (kvs : List (List Key × V))
    | set (S : Int -> Bool) (n : Nat)
    | ins (C dx : Addr) (fs : List (Str × V))
    | own (x : Addr)
    | xd (fs : List (Str × V))
    | met (f x : Addr)
    | rng (lo hi : Int)
    | frz (o : Obj) (u : HO)
    | tbl (ps : Array Value)
    | ext (φ : Heap -> Prop)
abbrev Hp := Addr -> Option HO
def upd (H : Hp) (a : Addr) (o : HO) : Hp := fun b => if b = a then some o else H b
theorem upd_same {H : Hp} {a : Addr} {o : HO} : upd H a o a = some o := by unfold upd; rw [if_pos rfl]
theorem upd_ne {H : Hp} {a b : Addr} {o : HO} (h : b ≠ a) : upd H a o b = H b := by unfold upd; rw [if_neg h]
theorem upd_upd {H : Hp} {a : Addr} {o u : HO} : upd (upd H a o) a u = upd H a u := by
  funext b; unfold upd; split <;> rfl
theorem ne_of_none {H : Hp} {a b : Addr} {o : HO} (h : H a = some o) (h' : H b = none) : a ≠ b := by
  intro e; subst e; rw [h] at h'; cases h'
section
variable (P : Program) (w : World)
def ObjOk (H : Hp) (h : Heap) (a : Addr) : HO -> Prop
  | .lst xs => xs.length <= sizeLine /\ ∃ (its : List Value) (n : Nat), Vals xs its /\ h.get? a = some { cls := .type "list", data := .seq its.toArray n }
  | .tup xs => xs.length <= sizeLine /\ ∃ its : List Value, Vals xs its /\ IsTup h a its.toArray
  | .dK kvs => kvs.length <= sizeLine /\ (a == sysModules) = false /\ ∃ vs, KV kvs vs /\ h.DictOf (mixKind P w) a vs
  | .dT kvs => kvs.length <= sizeLine /\ (a == sysModules) = false /\ ∃ xs : List (List Key × Addr × Value),
      Paired (fun (p : List Key × V) (q : List Key × Addr × Value) => p.1 = q.1 /\ H q.2.1 = some (.tup (p.1.map kV)) /\ RelV p.2 q.2.2) kvs xs /\
      ∃ o es ep, h.get? a = some o /\ o.ExactDict /\ o.data = .dict es ep /\ es.toList = xs.map (entryOfKey (tupleKind (mixKind P w))) /\ (xs.map (·.1)).Nodup
  | .set S n => h.SetOf (intKind P w) a S n
  | .ins C dx fs => H dx = some (.own a) /\ fs.length <= 1000 /\ dx ≠ a /\ h.get? a = some (PySem.W.instObj C dx) /\
      ∃ mA, h.Ns1 dx mA /\ (∀ f, RelO (fs.lookup f) (mA f)) /\ PySem.Within mA (fs.map (·.1))
  | .own _ => ∃ o, h.get? a = some o
  | .xd fs => ∃ mA, h.Ns1 a mA /\ ∀ f, RelO (fs.lookup f) (mA f)
  | .rng lo hi => ∃ t u v, h.get? a = some { cls := .type "range", data := .fields #[.int lo t, .int hi u, .int 1 v] }
  | .frz o u => h.get? a = some o /\ ObjOk H h a u
  | .tbl ps => h.get? a = some { cls := .none, data := .fields ps }
  | .met f x => h.get? a = some (PySem.W.methodObj (.ref f) (.ref x))
  | .ext φ => φ h /\ (∃ o, h.get? a = some o) /\ ∀ h1 h2 : Heap, φ h1 -> (∀ o, h1.get? a = some o -> h2.get? a = some o) -> φ h2
def HOk (H : Hp) (h : Heap) : Prop := ∀ a o, H a = some o -> ObjOk P w H h a o
end
section
variable {P : Program} {w : World} {H H' : Hp} {h h' : Heap} {a : Addr} {o : HO}
theorem ObjOk.lt (x : ObjOk P w H h a o) : a < h.objs.size := by
  cases o with
  | lst xs => obtain ⟨_, _, _, _, e⟩ := x; exact Heap.lt_size e
  | tup xs => obtain ⟨_, _, _, p⟩ := x; exact p.lt
  | dK kvs => obtain ⟨_, _, _, _, o, _, _, e, _⟩ := x; exact Heap.lt_size e
  | dT kvs => obtain ⟨_, _, _, _, o, _, _, e, _⟩ := x; exact Heap.lt_size e
  | set S n => obtain ⟨o, _, _, _, e, _⟩ := x; exact Heap.lt_size e
  | ins C dx fs => obtain ⟨_, _, _, e, _⟩ := x; exact Heap.lt_size e
  | own y => obtain ⟨_, e⟩ := x; exact Heap.lt_size e
  | xd fs => obtain ⟨_, ⟨_, _, _, e, _⟩, _⟩ := x; exact Heap.lt_size e
  | rng lo hi => obtain ⟨_, _, _, e⟩ := x; exact Heap.lt_size e
  | frz ob u => obtain ⟨e, _⟩ := x; exact Heap.lt_size e
  | tbl ps => exact Heap.lt_size (show h.get? a = some _ from x)
  | met f y => exact Heap.lt_size (show h.get? a = some _ from x)
  | ext φ => obtain ⟨_, ⟨_, e⟩, _⟩ := x; exact Heap.lt_size e
theorem Paired.mapP {α β : Type} {F G : α -> β -> Prop} : ∀ {l₁ : List α} {l₂ : List β}, Paired F l₁ l₂ -> (∀ a b, F a b -> G a b) -> Paired G l₁ l₂
  | _, _, .nil, _ => .nil
  | _, _, .cons r t, f => .cons (f _ _ r) (Paired.mapP t f)
theorem ObjOk.stay (x : ObjOk P w H h a o) (k : ∀ b u, (b = a ∨ H b = some (.own a)) -> h.get? b = some u -> h'.get? b = some u)
    (ho : ∀ b, H b = some (.own a) -> H' b = some (.own a)) (ht : ∀ b xs, H b = some (.tup xs) -> H' b = some (.tup xs)) : ObjOk P w H' h' a o := by
  induction o with
  | lst xs => obtain ⟨z, its, n, r, e⟩ := x; exact ⟨z, its, n, r, k _ _ (.inl rfl) e⟩
  | tup xs => obtain ⟨z, its, r, ob, e, c⟩ := x; exact ⟨z, its, r, ob, k _ _ (.inl rfl) e, c⟩
  | dK kvs => obtain ⟨z, y, vs, r, ob, es, ep, e, c⟩ := x; exact ⟨z, y, vs, r, ob, es, ep, k _ _ (.inl rfl) e, c⟩
  | dT kvs =>
    obtain ⟨z, y, xs, r, ob, es, ep, e, c⟩ := x
    exact ⟨z, y, xs, Paired.mapP r fun p q z => ⟨z.1, ht _ _ z.2.1, z.2.2⟩, ob, es, ep, k _ _ (.inl rfl) e, c⟩
  | set S n => obtain ⟨ob, es, ep, t, e, c⟩ := x; exact ⟨ob, es, ep, t, k _ _ (.inl rfl) e, c⟩
  | ins C dx fs =>
    obtain ⟨d, z, ne, e, mA, ⟨od, es, ep, e2, c⟩, r⟩ := x
    exact ⟨ho _ d, z, ne, k _ _ (.inl rfl) e, mA, ⟨od, es, ep, k _ _ (.inr d) e2, c⟩, r⟩
  | own y => obtain ⟨ob, e⟩ := x; exact ⟨ob, k _ _ (.inl rfl) e⟩
  | xd fs => obtain ⟨mA, ⟨od, es, ep, e, c⟩, r⟩ := x; exact ⟨mA, ⟨od, es, ep, k _ _ (.inl rfl) e, c⟩, r⟩
  | rng lo hi => obtain ⟨t, u, v, e⟩ := x; exact ⟨t, u, v, k _ _ (.inl rfl) e⟩
  | frz ob u ih => obtain ⟨e, q⟩ := x; exact ⟨k _ _ (.inl rfl) e, ih q⟩
  | tbl ps =>
    have e : h.get? a = some { cls := .none, data := .fields ps } := x
    show h'.get? a = some { cls := .none, data := .fields ps }
    exact k a _ (.inl rfl) e
  | met f y =>
    have e : h.get? a = some (PySem.W.methodObj (.ref f) (.ref y)) := x
    show h'.get? a = some (PySem.W.methodObj (.ref f) (.ref y))
    exact k a _ (.inl rfl) e
  | ext φ => obtain ⟨p, ⟨o, e⟩, st⟩ := x; exact ⟨st _ _ p fun o q => k _ _ (.inl rfl) q, ⟨o, k _ _ (.inl rfl) e⟩, st⟩
theorem HOk.lt (x : HOk P w H h) (e : H a = some o) : a < h.objs.size := (x a o e).lt
theorem HOk.fresh (x : HOk P w H h) (e : h.objs.size <= a) : H a = none := by
  cases q : H a with
  | none => rfl
  | some u => exact absurd (Nat.lt_of_lt_of_le (x.lt q) e) (Nat.lt_irrefl _)
theorem HOk.kept (x : HOk P w H h) (k : ∀ b u, h.get? b = some u -> h'.get? b = some u) : HOk P w H h' := fun a o e =>
  (x a o e).stay (fun b u _ q => k b u q) (fun _ q => q) fun _ _ q => q
theorem HOk.laid (x : HOk P w H h) (k : ∀ b u, h.get? b = some u -> h'.get? b = some u) (hp : h.objs.size <= a) (new : ObjOk P w (upd H a o) h' a o) : HOk P w (upd H a o) h' := fun b u e => by
  have hn := x.fresh hp
  by_cases hb : b = a
  · subst hb; rw [upd_same] at e; cases e; exact new
  · rw [upd_ne hb] at e
    exact (x b u e).stay (fun c v _ q => k c v q) (fun c q => by rw [upd_ne (ne_of_none q hn)]; exact q) fun c xs q => by rw [upd_ne (ne_of_none q hn)]; exact q
end
def Rd (H : Hp) (a : Addr) (u : HO) : Prop := H a = some u ∨ ∃ o, H a = some (.frz o u)
theorem Rd.ok {P : Program} {w : World} {H : Hp} {h : Heap} {a : Addr} {u : HO} (r : Rd H a u) (x : HOk P w H h) : ObjOk P w H h a u := by
  rcases r with r | ⟨o, r⟩
  · exact x a u r
  · obtain ⟨_, q⟩ := x a _ r
    exact q
def Mut : Option HO -> Prop
  | some (.lst _) => True
  | some (.dK _) => True
  | some (.dT _) => True
  | some (.set _ _) => True
  | some (.ins _ _ _) => True
  | some (.ext _) => True
  | _ => False
section
variable {P : Program} {w : World} {H : Hp} {h h' : Heap} {x e : Addr} {o' : HO}
theorem HOk.write (ok : HOk P w H h) (mu : Mut (H x)) (he : e = x ∨ H e = some (.own x)) (k : ∀ b u, b ≠ e -> h.get? b = some u -> h'.get? b = some u) (heo : ∃ u, h'.get? e = some u)
    (new : ObjOk P w (upd H x o') h' x o') : HOk P w (upd H x o') h' := fun b u q => by
  have nown : ∀ c y, H c = some (.own y) -> c ≠ x := fun c y r z => by subst z; rw [r] at mu; exact mu
  have ntup : ∀ c xs, H c = some (.tup xs) -> c ≠ x := fun c xs r z => by subst z; rw [r] at mu; exact mu
  by_cases hb : b = x
  · subst hb; rw [upd_same] at q; cases q; exact new
  · rw [upd_ne hb] at q
    by_cases hbe : b = e
    · have q' : H b = some (.own x) := by
        rcases he with z | z
        · exact absurd (hbe.trans z) hb
        · rw [hbe]; exact z
      rw [q] at q'; cases q'
      obtain ⟨v, hv⟩ := heo
      exact ⟨v, by rw [hbe]; exact hv⟩
    · refine (ok b u q).stay (fun c v hc r => k c v ?_ r) (fun c r => by rw [upd_ne (nown c b r)]; exact r) fun c xs r => by rw [upd_ne (ntup c xs r)]; exact r
      rcases hc with rfl | hc
      · exact hbe
      · rintro rfl
        rcases he with z | z
        · exact nown c b hc z
        · rw [hc] at z; cases z; exact hb rfl
end
structure Un (fs ex : List Addr) (H H' : Hp) (h h' : Heap) : Prop where
  keep : ∀ b o, h.get? b = some o -> H b = none -> b ∉ fs -> b ∉ ex -> h'.get? b = some o
  slot : ∀ b o, h.get? b = some o -> H b = none -> b ∈ fs -> b ∉ ex -> ∃ sl, h'.get? b = some { o with slots := sl }
  free : ∀ b o, h.get? b = some o -> H b = none -> b ∉ ex -> H' b = none
  there : ∀ b o, h.get? b = some o -> b ∉ ex -> ∃ o', h'.get? b = some o'
  tups : ∀ b xs, H b = some (.tup xs) -> H' b = some (.tup xs)
  frzs : ∀ b o u, H b = some (.frz o u) -> H' b = some (.frz o u)
  tbls : ∀ b ps, H b = some (.tbl ps) -> ∃ more, H' b = some (.tbl (ps ++ more))
section
variable {fs fs' ex ex' : List Addr} {H H1 H2 : Hp} {h h1 h2 h' : Heap} {a x e : Addr} {o : HO}
theorem Un.any (u : Un fs ex H H1 h h1) {b : Addr} {ob : Obj} (q : h.get? b = some ob) (n : H b = none) (hx : b ∉ ex) : ∃ sl, h1.get? b = some { ob with slots := sl } := by
  by_cases hb : b ∈ fs
  · exact u.slot b ob q n hb hx
  · exact ⟨ob.slots, u.keep b ob q n hb hx⟩
theorem Un.kept (k : ∀ b u, h.get? b = some u -> h'.get? b = some u) : Un fs ex H H h h' :=
  ⟨fun b ob q _ _ _ => k b ob q, fun b ob q _ _ _ => ⟨ob.slots, k b ob q⟩, fun _ _ _ n _ => n, fun b ob q _ => ⟨ob, k b ob q⟩, fun _ _ q => q, fun _ _ _ q => q, fun _ ps q => ⟨#[], by rw [q]; simp⟩⟩
theorem Un.refl : Un fs ex H H h h := Un.kept fun _ _ q => q
theorem Un.laid (k : ∀ b u, h.get? b = some u -> h'.get? b = some u) (hp : h.objs.size <= a) (hn : H a = none) : Un fs ex H (upd H a o) h h' where
  keep := fun b u q _ _ _ => k b u q
  slot := fun b u q _ _ _ => ⟨u.slots, k b u q⟩
  free := fun b u q n _ => by rw [upd_ne (Nat.ne_of_lt (Nat.lt_of_lt_of_le (Heap.lt_size q) hp))]; exact n
  there := fun b u q _ => ⟨u, k b u q⟩
  tups := fun b xs q => by rw [upd_ne (ne_of_none q hn)]; exact q
  frzs := fun b u xs q => by rw [upd_ne (ne_of_none q hn)]; exact q
  tbls := fun b ps q => ⟨#[], by rw [upd_ne (ne_of_none q hn), q]; simp⟩
theorem Un.write (mu : Mut (H x)) (he : e = x ∨ H e = some (.own x)) (k : ∀ b u, b ≠ e -> h.get? b = some u -> h'.get? b = some u) (heo : ∃ u, h'.get? e = some u) : Un fs ex H (upd H x o) h h' := by
  have hx : ∀ b, H b = none -> b ≠ x := fun b n z => by subst z; rw [n] at mu; exact mu
  have hb : ∀ b, H b = none -> b ≠ e := fun b n z => by
    subst z
    rcases he with r | r
    · exact hx b n r
    · rw [n] at r; cases r
  have hm : ∀ b u, H b = some u -> ¬ Mut (some u) -> b ≠ x := fun b u q nm z => by subst z; rw [q] at mu; exact nm mu
  refine ⟨fun b u q n _ _ => k b u (hb b n) q, fun b u q n _ _ => ⟨u.slots, k b u (hb b n) q⟩, fun b u q n _ => by rw [upd_ne (hx b n)]; exact n, fun b u q _ => ?_,
    fun b xs q => by rw [upd_ne (hm b _ q fun z => z)]; exact q, fun b u xs q => by rw [upd_ne (hm b _ q fun z => z)]; exact q, fun b ps q => ⟨#[], by rw [upd_ne (hm b _ q fun z => z), q]; simp⟩⟩
  by_cases hbe : b = e
  · subst hbe; exact heo
  · exact ⟨u, k b u hbe q⟩
end
def trk (h : Heap) (H : Hp) : List Addr := (List.range h.objs.size).filter fun a => (H a).isSome
def hidT (h : Heap) (H : Hp) : Heap := PySem.W.hideAll h (trk h H)
theorem hidT_size (h : Heap) (H : Hp) : (hidT h H).objs.size = h.objs.size := PySem.W.hideAll_size _ _
theorem hidT_get {h : Heap} {H : Hp} {b : Addr} {o : Obj} (e : h.get? b = some o) (n : H b = none) : (hidT h H).get? b = some o :=
  PySem.W.hideAll_get _ e fun hm => by
    have q : (H b).isSome = true := (List.mem_filter.mp hm).2
    rw [n] at q; simp at q
theorem of_hidT {h : Heap} {H : Hp} {b : Addr} {o : Obj} (e : (hidT h H).get? b = some o) : h.get? b = some o /\ H b = none := by
  have e' : h.get? b = some o := PySem.W.of_hideAll (trk h H) e
  refine ⟨e', ?_⟩
  cases q : H b with
  | none => rfl
  | some x =>
    have hm : b ∈ trk h H := List.mem_filter.mpr ⟨List.mem_range.mpr (Heap.lt_size e'), by simp [q]⟩
    have z : (hidT h H).get? b = none := PySem.W.hideAll_none (trk h H) hm
    rw [z] at e; cases e
def allNews (g h : Heap) (L : Addr) : List (Addr × Obj) := (List.range h.objs.size).filterMap fun a => if a = L ∨ (g.get? a).isSome = true then none else (h.get? a).map fun o => (a, o)
def rest (g h : Heap) (L d : Addr) : List (Addr × Obj) := (allNews g h L).filter fun p => decide (p.1 ≠ d)
structure Mod (K : PySem.W.Frag) (mg : Str -> Option Value) (base : Heap) : Prop where
  kin : K.In base
  glob : base.Ns mainGlobals mg
  blt : ∃ mb, base.Ns builtinsNs mb /\ ∀ x : Str, x ≠ "__name__" -> mb x = bootBuiltins x
  nolimit : base.NoLimit
structure Cx where
  prog : Program
  w : World
  K : PySem.W.Frag
  mg : Str -> Option Value
  base : Heap
  A : Around
  N : List Str
  s₀ : Shared
  H₀ : Hp
  env : Env
  outer : List Env
  stack : List Env
  ex : List Addr
  fn : Str -> Bool
  calm : Bool
  pn : List (Addr × Obj)
  xe : Value -> Shared -> Prop
def frs (l : List Env) : List Addr := l.filterMap (·.frame)
abbrev Cx.fs (X : Cx) : List Addr := frs X.outer
def Vis (sc : Scope) (x : Str) : Prop := sc.names.lookup x = some .local ∨ sc.names.lookup x = some .cell ∨ sc.names.lookup x = some .free
def Loc (sc : Scope) (x : Str) : Prop := sc.names.lookup x = some .local ∨ sc.names.lookup x = some .cell
def Look (env : Env) (h : Heap) (m : Str -> Option Value) (x : Str) (u : Value) : Prop :=
  (env.kindOf x = some .local /\ m x = some u) ∨ ((env.kindOf x = some .cell ∨ env.kindOf x = some .free) /\ ∃ c, env.cells.lookup x = some c /\ h.IsCell c (some u))
structure Cx.Ok (X : Cx) : Prop where
  mod : Mod X.K X.mg X.base
  kind : X.env.scope.kind = .function
  glob : X.env.globals = mainGlobals
  blt : X.env.builtins = builtinsNs
  above : X.s₀.heap.objs.size <= X.env.locals
  inj : ∀ x y c, X.env.cells.lookup x = some c -> X.env.cells.lookup y = some c -> x = y
  has : ∀ x, (X.env.kindOf x = some .cell ∨ X.env.kindOf x = some .free) -> ∃ c, X.env.cells.lookup x = some c
  cab : ∀ x c, X.fn x = true -> X.env.cells.lookup x = some c -> X.s₀.heap.objs.size <= c
  hd : X.calm = true -> X.A.handled = none
  frames : X.A.frames = some X.stack
  stk : X.stack = X.outer ∨ (X.stack = X.env :: X.outer /\ X.env.frame = some X.env.locals)
  exf : ∀ b ∈ X.ex, b ≠ X.env.locals /\ ∀ x c, X.env.cells.lookup x = some c -> c ≠ b
  bs : ∀ b o, X.base.get? b = some o -> X.s₀.heap.get? b = some o /\ X.H₀ b = none
  bsz : X.base.objs.size <= X.s₀.heap.objs.size
  noex : ∀ b o, X.base.get? b = some o -> b ∉ X.ex
  exfs : ∀ b ∈ X.ex, b ∉ X.fs
  funs : X.s₀.heap.FunFrames X.base X.outer
  frf : ∀ b ∈ X.fs, X.H₀ b = none
structure Inv (X : Cx) (pins : List (Addr × Obj)) (σ : List (Option V)) (H : Hp) (s : Shared) : Prop where
  ok : X.Ok
  os : s.os = X.s₀.os
  bare : AllBare s.gens
  base : Un X.fs X.ex X.H₀ H X.s₀.heap s.heap
  loc : ∃ m, s.heap.Ns X.env.locals m /\ ∀ (i : Nat) (x : Str) (v : V), X.N[i]? = some x -> σ[i]? = some (some v) -> Vis X.env.scope x -> ∃ u, RelV v u /\ Look X.env s.heap m x u
  cell : ∀ x c, X.env.cells.lookup x = some c -> ∃ v, s.heap.IsCell c v
  free : H X.env.locals = none
  freeC : ∀ x c, X.env.cells.lookup x = some c -> H c = none
  pin : ∀ p ∈ X.pn ++ pins, s.heap.get? p.1 = some p.2 /\ H p.1 = none /\ p.1 ≠ X.env.locals /\ p.1 ∉ X.fs /\ ∀ v, p.2.data ≠ .cell v
  hok : HOk X.prog X.w H s.heap
  len : σ.length = X.N.length
section
variable {X : Cx} {pins : List (Addr × Obj)} {σ : List (Option V)} {H H' : Hp} {s : Shared} {h' : Heap}
theorem Cx.Ok.nofr (ok : X.Ok) {b : Addr} {o : Obj} (e : X.base.get? b = some o) : b ∉ X.fs := fun hb => by
  have := (ok.funs.mem hb).1
  rw [e] at this; cases this
theorem Inv.bs (I : Inv X pins σ H s) : ∀ b o, X.base.get? b = some o -> s.heap.get? b = some o /\ H b = none := fun b o e =>
  ⟨I.base.keep b o (I.ok.bs b o e).1 (I.ok.bs b o e).2 (I.ok.nofr e) (I.ok.noex b o e), I.base.free b o (I.ok.bs b o e).1 (I.ok.bs b o e).2 (I.ok.noex b o e)⟩
theorem Inv.bk (I : Inv X pins σ H s) : ∀ b o, X.base.get? b = some o -> s.heap.get? b = some o := fun b o e => (I.bs b o e).1
theorem Inv.mod (I : Inv X pins σ H s) : Mod X.K X.mg X.base := I.ok.mod
theorem Inv.kIn (I : Inv X pins σ H s) : X.K.In s.heap := I.ok.mod.kin.keeps I.bk
theorem Inv.lt (I : Inv X pins σ H s) : X.env.locals < s.heap.objs.size := let ⟨_, hn, _⟩ := I.loc; hn.lt
theorem Inv.sz (I : Inv X pins σ H s) : X.s₀.heap.objs.size <= s.heap.objs.size := Nat.le_trans I.ok.above (Nat.le_of_lt I.lt)
theorem Inv.nofs (I : Inv X pins σ H s) {a : Addr} (h : s.heap.objs.size <= a) : a ∉ X.fs := fun hb => by
  obtain ⟨_, o, ho, _⟩ := I.ok.funs.mem hb
  exact absurd (Nat.lt_of_lt_of_le (Heap.lt_size ho) (Nat.le_trans I.sz h)) (Nat.lt_irrefl _)
theorem Inv.cne (I : Inv X pins σ H s) : ∀ x c, X.env.cells.lookup x = some c -> c ≠ X.env.locals := fun x c e z => by
  obtain ⟨v, o, ho, hd⟩ := I.cell x c e
  obtain ⟨m, ⟨o', es, ep, ho', hd', _⟩, _⟩ := I.loc
  rw [z, ho'] at ho; cases ho; rw [hd'] at hd; cases hd
theorem Inv.funs (I : Inv X pins σ H s) : s.heap.FunFrames X.base X.outer := by
  have all : ∀ (l : List Env), (∀ b ∈ frs l, b ∈ X.fs) -> X.s₀.heap.FunFrames X.base l -> s.heap.FunFrames X.base l := by
    intro l
    induction l with
    | nil => intro _ _; trivial
    | cons env r ih =>
      intro hs hl
      obtain ⟨hk, ⟨L, o, hf, hn, ho, hd⟩, hr⟩ := hl
      have hL : L ∈ X.fs := hs L (by unfold frs; rw [List.filterMap_cons, hf]; exact List.mem_cons_self)
      obtain ⟨sl, e⟩ := I.base.slot L o ho (I.ok.frf L hL) hL fun z => I.ok.exfs L z hL
      exact ⟨hk, ⟨L, _, hf, hn, e, hd⟩, ih (fun b hb => hs b (by unfold frs; rw [List.filterMap_cons, hf]; exact List.mem_cons_of_mem _ hb)) hr⟩
  exact all X.outer (fun _ hb => hb) I.ok.funs
theorem Inv.stack (I : Inv X pins σ H s) : s.heap.FunFrames X.base X.stack := by
  rcases I.ok.stk with e | ⟨e, hf⟩
  · rw [e]; exact I.funs
  · rw [e]
    obtain ⟨m, hn, _⟩ := I.loc
    refine .cons (by rw [I.ok.kind]; decide) hf hn ?_ I.funs
    exact Heap.get?_none_of_le (Nat.le_trans I.ok.bsz I.ok.above)
theorem Inv.stkSub (I : Inv X pins σ H s) : ∀ b ∈ frs X.stack, b ∈ X.env.locals :: X.fs := fun b hb => by
  rcases I.ok.stk with e | ⟨e, hf⟩
  · rw [e] at hb; exact List.mem_cons_of_mem _ hb
  · rw [e] at hb
    unfold frs at hb
    rw [List.filterMap_cons, hf] at hb
    exact hb
theorem Inv.stkFree (I : Inv X pins σ H s) : ∀ b ∈ frs X.stack, H b = none := fun b hb => by
  rcases List.mem_cons.mp (I.stkSub b hb) with e | hb
  · rw [e]; exact I.free
  · obtain ⟨_, o, ho, _⟩ := I.ok.funs.mem hb
    exact I.base.free b o ho (I.ok.frf b hb) fun z => I.ok.exfs b z hb
theorem Inv.step {g' : Array GenState} {t' : Nat} {d' : Drawn} {ch : List Addr} (I : Inv X pins σ H s)
    (hch : ∀ b ∈ ch, (b ∈ X.ex ∨ X.s₀.heap.objs.size <= b) /\ b ≠ X.env.locals /\ (∀ x c, X.env.cells.lookup x = some c -> c ≠ b) /\ ∀ p ∈ X.pn ++ pins, p.1 ≠ b)
    (keep : ∀ b o, b ≠ X.env.locals -> b ∉ X.fs -> b ∉ ch -> s.heap.get? b = some o -> H b = none -> h'.get? b = some o)
    (slot : ∀ b o, b ≠ X.env.locals -> b ∈ X.fs -> b ∉ ch -> s.heap.get? b = some o -> H b = none -> ∃ sl, h'.get? b = some { o with slots := sl }) (free : ∀ b o, b ∉ ch -> s.heap.get? b = some o -> H b = none -> H' b = none)
    (there : ∀ b o, b ∉ ch -> s.heap.get? b = some o -> ∃ o', h'.get? b = some o')
    (tups : ∀ b xs, H b = some (.tup xs) -> H' b = some (.tup xs)) (frzs : ∀ b o u, H b = some (.frz o u) -> H' b = some (.frz o u)) (tbls : ∀ b ps, H b = some (.tbl ps) -> ∃ more, H' b = some (.tbl (ps ++ more)))
    (ns : ∀ m, s.heap.Ns X.env.locals m -> h'.Ns X.env.locals m) (hok : HOk X.prog X.w H' h') (hg : AllBare g') :
    Inv X pins σ H' { s with heap := h', gens := g', drawn := d', toks := t' } := by
  have neL : ∀ b o, X.s₀.heap.get? b = some o -> b ≠ X.env.locals := fun b o e => Nat.ne_of_lt (Nat.lt_of_lt_of_le (Heap.lt_size e) I.ok.above)
  have neC : ∀ b o, X.s₀.heap.get? b = some o -> b ∉ X.ex -> b ∉ ch := fun b o e hx hb => by
    rcases (hch b hb).1 with z | z
    · exact hx z
    · exact absurd (Nat.lt_of_lt_of_le (Heap.lt_size e) z) (Nat.lt_irrefl _)
  have cellK : ∀ x c, X.env.cells.lookup x = some c -> ∀ v, s.heap.IsCell c v -> h'.IsCell c v := fun x c e v ⟨o, ho, hd⟩ => by
    have nch : c ∉ ch := fun z => (hch c z).2.2.1 x c e rfl
    by_cases hc : c ∈ X.fs
    · obtain ⟨sl, q⟩ := slot c o (I.cne x c e) hc nch ho (I.freeC x c e)
      exact ⟨_, q, hd⟩
    · exact ⟨o, keep c o (I.cne x c e) hc nch ho (I.freeC x c e), hd⟩
  refine ⟨I.ok, I.os, hg, ⟨fun b o e n hb hx => ?_, fun b o e n hb hx => ?_, fun b o e n hx => ?_, fun b o e hx => ?_, fun b xs e => tups b xs (I.base.tups b xs e), fun b o xs e => frzs b o xs (I.base.frzs b o xs e), fun b ps e => ?_⟩, ?_, fun x c e => ?_, ?_, fun x c e => ?_, fun p hp => ?_, hok, I.len⟩
  · exact keep b o (neL b o e) hb (neC b o e hx) (I.base.keep b o e n hb hx) (I.base.free b o e n hx)
  · obtain ⟨sl, e1⟩ := I.base.slot b o e n hb hx
    obtain ⟨sl', e2⟩ := slot b _ (neL b o e) hb (neC b o e hx) e1 (I.base.free b o e n hx)
    exact ⟨sl', e2⟩
  · obtain ⟨o', e1⟩ := I.base.there b o e hx
    exact free b o' (neC b o e hx) e1 (I.base.free b o e n hx)
  · obtain ⟨o', e1⟩ := I.base.there b o e hx
    exact there b o' (neC b o e hx) e1
  · obtain ⟨m1, e1⟩ := I.base.tbls b ps e
    obtain ⟨m2, e2⟩ := tbls b _ e1
    exact ⟨m1 ++ m2, by rw [e2, Array.append_assoc]⟩
  · obtain ⟨m, hn, hl⟩ := I.loc
    refine ⟨m, ns m hn, fun i x v e1 e2 e3 => ?_⟩
    obtain ⟨u, r, l⟩ := hl i x v e1 e2 e3
    refine ⟨u, r, ?_⟩
    rcases l with l | ⟨k, c, e, z⟩
    · exact .inl l
    · exact .inr ⟨k, c, e, cellK x c e _ z⟩
  · obtain ⟨v, z⟩ := I.cell x c e
    exact ⟨v, cellK x c e v z⟩
  · obtain ⟨m, ⟨o, _, _, ho, _⟩, _⟩ := I.loc
    exact free _ o (fun z => (hch _ z).2.1 rfl) ho I.free
  · obtain ⟨v, o, ho, hd⟩ := I.cell x c e
    exact free c o (fun z => (hch c z).2.2.1 x c e rfl) ho (I.freeC x c e)
  · obtain ⟨e, n, ne, nf, d⟩ := I.pin p hp
    have nch : p.1 ∉ ch := fun z => (hch p.1 z).2.2.2 p hp rfl
    exact ⟨keep p.1 p.2 ne nf nch e n, free p.1 p.2 nch e n, ne, nf, d⟩
theorem Inv.un {t' : Nat} (I : Inv X pins σ H s) (u : Un X.fs [] H H' s.heap h') (hok : HOk X.prog X.w H' h') : Inv X pins σ H' { s with heap := h', toks := t' } := by
  obtain ⟨m, ⟨o, es, ep, ho, r⟩, _⟩ := id I.loc
  obtain ⟨sl, hL⟩ := u.any ho I.free (by simp)
  exact I.step (g' := s.gens) (d' := s.drawn) (ch := []) (fun _ z => nomatch z) (fun b o _ hb _ e n => u.keep b o e n hb (by simp)) (fun b o _ hb _ e n => u.slot b o e n hb (by simp)) (fun b o _ e n => u.free b o e n (by simp)) (fun b o _ e => u.there b o e (by simp)) u.tups u.frzs u.tbls (fun m' hm => by
    obtain ⟨o', es', ep', ho', r'⟩ := hm
    rw [ho] at ho'; cases ho'
    exact ⟨_, es', ep', hL, r'⟩) hok I.bare
theorem Inv.call {g' : Array GenState} {t' : Nat} {d' : Drawn} {ch : List Addr} (I : Inv X pins σ H s) (u : Un (frs X.stack) ch H H' s.heap h') (hok : HOk X.prog X.w H' h') (hg : AllBare g')
    (hch : ∀ b ∈ ch, (b ∈ X.ex ∨ X.s₀.heap.objs.size <= b) /\ b ≠ X.env.locals /\ (∀ x c, X.env.cells.lookup x = some c -> c ≠ b) /\ ∀ p ∈ X.pn ++ pins, p.1 ≠ b) :
    Inv X pins σ H' { s with heap := h', gens := g', drawn := d', toks := t' } := by
  obtain ⟨m, ⟨o, es, ep, ho, r⟩, _⟩ := id I.loc
  obtain ⟨sl, hL⟩ := u.any ho I.free fun z => (hch _ z).2.1 rfl
  exact I.step (ch := ch) hch (fun b o hL hb hc e n => u.keep b o e n (fun z => (List.mem_cons.mp (I.stkSub b z)).elim hL hb) hc) (fun b o _ _ hc e n => u.any e n hc) (fun b o hc e n => u.free b o e n hc) (fun b o hc e => u.there b o e hc) u.tups u.frzs u.tbls (fun m' hm => by
    obtain ⟨o', es', ep', ho', r'⟩ := hm
    rw [ho] at ho'; cases ho'
    exact ⟨_, es', ep', hL, r'⟩) hok hg
theorem Inv.turned {t' : Nat} {it : Addr} (I : Inv X pins σ H s) (k : ∀ b o, b ≠ it -> s.heap.get? b = some o -> h'.get? b = some o) (hn : H it = none) (hL : it ≠ X.env.locals)
    (h1 : it ∈ X.ex ∨ X.s₀.heap.objs.size <= it) (h2 : ∀ x c, X.env.cells.lookup x = some c -> c ≠ it) (h3 : ∀ p ∈ X.pn ++ pins, p.1 ≠ it) : Inv X pins σ H { s with heap := h', toks := t' } := by
  have nit : ∀ b u, H b = some u -> b ≠ it := fun b u e z => by rw [z, hn] at e; cases e
  refine I.step (g' := s.gens) (d' := s.drawn) (ch := [it]) (fun b hb => ?_) (fun b o _ _ hc e _ => k b o (fun z => hc (by simp [z])) e) (fun b o _ _ hc e _ => ⟨o.slots, k b o (fun z => hc (by simp [z])) e⟩) (fun _ _ _ _ n => n)
    (fun b o hc e => ⟨o, k b o (fun z => hc (by simp [z])) e⟩) (fun _ _ e => e) (fun _ _ _ e => e) (fun b ps e => ⟨#[], by rw [e]; simp⟩) (fun m hm => ?_) (fun b u e => ?_) I.bare
  · have e : b = it := by simpa using hb
    subst e
    exact ⟨h1, hL, h2, h3⟩
  · obtain ⟨o, es, ep, ho, r⟩ := hm
    exact ⟨o, es, ep, k _ o (Ne.symm hL) ho, r⟩
  · refine (I.hok b u e).stay (fun c v hc q => k c v ?_ q) (fun _ q => q) fun _ _ q => q
    rcases hc with z | z
    · rw [z]; exact nit b u e
    · exact nit c _ z
theorem Inv.tok (I : Inv X pins σ H s) (t : Nat) : Inv X pins σ H { s with toks := t } := I.un (h' := s.heap) (t' := t) Un.refl I.hok
theorem Inv.kept {t' : Nat} (I : Inv X pins σ H s) (k : ∀ b u, s.heap.get? b = some u -> h'.get? b = some u) : Inv X pins σ H { s with heap := h', toks := t' } := I.un (Un.kept k) (I.hok.kept k)
theorem Inv.laid {a : Addr} {o : HO} {t' : Nat} (I : Inv X pins σ H s) (k : ∀ b u, s.heap.get? b = some u -> h'.get? b = some u) (hp : s.heap.objs.size <= a) (new : ObjOk X.prog X.w (upd H a o) h' a o) :
    Inv X pins σ (upd H a o) { s with heap := h', toks := t' } := I.un (Un.laid k hp (I.hok.fresh hp)) (I.hok.laid k hp new)
theorem Inv.write {x e : Addr} {o : HO} {t' : Nat} (I : Inv X pins σ H s) (mu : Mut (H x)) (he : e = x ∨ H e = some (.own x)) (k : ∀ b u, b ≠ e -> s.heap.get? b = some u -> h'.get? b = some u) (heo : ∃ u, h'.get? e = some u)
    (new : ObjOk X.prog X.w (upd H x o) h' x o) : Inv X pins σ (upd H x o) { s with heap := h', toks := t' } := I.un (Un.write mu he k heo) (I.hok.write mu he k heo new)
theorem Inv.pins_of {pins' : List (Addr × Obj)} (I : Inv X pins σ H s) (h : ∀ p ∈ pins', s.heap.get? p.1 = some p.2 /\ H p.1 = none /\ p.1 ≠ X.env.locals /\ p.1 ∉ X.fs /\ ∀ v, p.2.data ≠ .cell v) : Inv X pins' σ H s :=
  ⟨I.ok, I.os, I.bare, I.base, I.loc, I.cell, I.free, I.freeC, fun p hp => (List.mem_append.mp hp).elim (fun z => I.pin p (List.mem_append_left _ z)) (h p), I.hok, I.len⟩
theorem nodup_ix {N : List Str} (hN : N.Nodup) {i j : Nat} {x : Str} (a : N[i]? = some x) (b : N[j]? = some x) : i = j := by
  obtain ⟨h1, e1⟩ := List.getElem?_eq_some_iff.mp a
  obtain ⟨h2, e2⟩ := List.getElem?_eq_some_iff.mp b
  exact (List.getElem_inj hN).mp (e1.trans e2.symm)
theorem store_ok2 {M : Model} {A : Around} {E : Value -> Shared -> Prop} {i : Nat} {x : Str} {v : V} {u : Value} {Q : Unit -> Shared -> Prop} (I : Inv X pins σ H s) (hN : X.N.Nodup) (hi : X.N[i]? = some x) (hx : Loc X.env.scope x) (r : RelV v u)
    (h : ∀ s', Inv X pins (σ.set i (some v)) H s' -> (∃ a, Heap.SameBut a s.heap s'.heap /\ (a = X.env.locals ∨ X.env.cells.lookup x = some a)) -> Q () s') (hf : X.fn x = true ∨ X.env.scope.names.lookup x = some .local := by first | exact .inl rfl | exact .inr rfl | assumption) : wpAny M A (storeName X.env x u) Q E s := by
  obtain ⟨m, hn, hl⟩ := id I.loc
  have hcls : (X.env.scope.kind == .class || (X.env.scope.kind == .module && X.env.locals != X.env.globals)) = false := by rw [I.ok.kind]; rfl
  have hiσ : i < σ.length := by rw [I.len]; exact (List.getElem?_eq_some_iff.mp hi).1
  have cne := I.cne
  have tracked : ∀ {a : Addr} {h' : Heap}, (∃ o, s.heap.get? a = some o /\ H a = none) -> Heap.SameBut a s.heap h' -> HOk X.prog X.w H h' := fun {a h'} ha hs b ob e => by
    obtain ⟨_, _, hfree⟩ := ha
    refine (I.hok b ob e).stay (fun c w' hc q => (hs.2 c ?_).trans q) (fun _ q => q) fun _ _ q => q
    rintro rfl
    rcases hc with rfl | hc
    · rw [hfree] at e; cases e
    · rw [hfree] at hc; cases hc
  rcases hx with hk | hk
  · refine wpAny_storeName_local hk hn (fun h' hn' hs => ?_) hcls
    obtain ⟨oL, _, _, hoL, _⟩ := id hn
    refine h _ ⟨I.ok, I.os, I.bare, ⟨fun b o e n hb hx => ?_, fun b o e n hb hx => ?_, I.base.free, fun b o e hx => ?_, I.base.tups, I.base.frzs, I.base.tbls⟩, ⟨_, hn', fun j y v' e1 e2 e3 => ?_⟩, fun y c e => ?_, I.free, I.freeC, fun p hp => ?_, tracked ⟨oL, hoL, I.free⟩ hs, by simpa using I.len⟩ ⟨_, hs, .inl rfl⟩
    · exact (hs.2 b (Nat.ne_of_lt (Nat.lt_of_lt_of_le (Heap.lt_size e) I.ok.above))).trans (I.base.keep b o e n hb hx)
    · obtain ⟨sl, e1⟩ := I.base.slot b o e n hb hx
      exact ⟨sl, (hs.2 b (Nat.ne_of_lt (Nat.lt_of_lt_of_le (Heap.lt_size e) I.ok.above))).trans e1⟩
    · obtain ⟨o', e1⟩ := I.base.there b o e hx
      exact ⟨o', (hs.2 b (Nat.ne_of_lt (Nat.lt_of_lt_of_le (Heap.lt_size e) I.ok.above))).trans e1⟩
    · by_cases hj : j = i
      · subst hj
        rw [hi] at e1; cases e1
        rw [List.getElem?_set_self hiσ] at e2
        cases e2
        exact ⟨u, r, .inl ⟨hk, by simp⟩⟩
      · rw [List.getElem?_set_ne (Ne.symm hj)] at e2
        obtain ⟨u', r', q⟩ := hl j y v' e1 e2 e3
        refine ⟨u', r', ?_⟩
        rcases q with ⟨k, e⟩ | ⟨k, c, e, z⟩
        · refine .inl ⟨k, ?_⟩
          have : y ≠ x := fun e => hj (nodup_ix hN e1 (e ▸ hi))
          simp [this, e]
        · exact .inr ⟨k, c, e, z.sameBut hs (cne y c e)⟩
    · obtain ⟨w', z⟩ := I.cell y c e
      exact ⟨w', z.sameBut hs (cne y c e)⟩
    · obtain ⟨e, n, ne, nf, d⟩ := I.pin p hp
      exact ⟨(hs.2 p.1 ne).trans e, n, ne, nf, d⟩
  · have hfn : X.fn x = true := by
      rcases hf with z | z
      · exact z
      · rw [z] at hk; cases hk
    obtain ⟨c, hc⟩ := I.ok.has x (.inl hk)
    obtain ⟨w', z⟩ := I.cell x c hc
    refine wpAny_storeName_cell I.ok.kind hk hc z (fun h' hc' hs => ?_)
    obtain ⟨oc, hoc, hocd⟩ := id z
    refine h { s with heap := h' } ⟨I.ok, I.os, I.bare, ⟨fun b o e n hb hx => ?_, fun b o e n hb hx => ?_, I.base.free, fun b o e hx => ?_, I.base.tups, I.base.frzs, I.base.tbls⟩, ⟨m, hn.sameBut hs (Ne.symm (cne x c hc)), fun j y v' e1 e2 e3 => ?_⟩, fun y c' e => ?_, I.free, I.freeC, fun p hp => ?_, tracked ⟨oc, hoc, I.freeC x c hc⟩ hs, by simpa using I.len⟩ ⟨c, hs, .inr hc⟩
    · exact (hs.2 b (Nat.ne_of_lt (Nat.lt_of_lt_of_le (Heap.lt_size e) (I.ok.cab x c hfn hc)))).trans (I.base.keep b o e n hb hx)
    · obtain ⟨sl, e1⟩ := I.base.slot b o e n hb hx
      exact ⟨sl, (hs.2 b (Nat.ne_of_lt (Nat.lt_of_lt_of_le (Heap.lt_size e) (I.ok.cab x c hfn hc)))).trans e1⟩
    · obtain ⟨o', e1⟩ := I.base.there b o e hx
      exact ⟨o', (hs.2 b (Nat.ne_of_lt (Nat.lt_of_lt_of_le (Heap.lt_size e) (I.ok.cab x c hfn hc)))).trans e1⟩
    · by_cases hj : j = i
      · subst hj
        rw [hi] at e1; cases e1
        rw [List.getElem?_set_self hiσ] at e2
        cases e2
        exact ⟨u, r, .inr ⟨.inl hk, c, hc, hc'⟩⟩
      · rw [List.getElem?_set_ne (Ne.symm hj)] at e2
        obtain ⟨u', r', q⟩ := hl j y v' e1 e2 e3
        refine ⟨u', r', ?_⟩
        rcases q with q | ⟨k, c', e, z'⟩
        · exact .inl q
        · refine .inr ⟨k, c', e, z'.sameBut hs ?_⟩
          rintro rfl
          exact hj (nodup_ix hN e1 (I.ok.inj _ _ _ e hc ▸ hi))
    · by_cases hcc : c' = c
      · subst hcc; exact ⟨_, hc'⟩
      · obtain ⟨w2, z2⟩ := I.cell y c' e
        exact ⟨w2, z2.sameBut hs hcc⟩
    · obtain ⟨e, n, ne, nf, d⟩ := I.pin p hp
      refine ⟨(hs.2 p.1 ?_).trans e, n, ne, nf, d⟩
      intro q
      rw [q, hoc] at e
      have q' : oc = p.2 := Option.some.inj e
      exact d w' (by rw [<- q']; exact hocd)
theorem store_ok {M : Model} {A : Around} {E : Value -> Shared -> Prop} {i : Nat} {x : Str} {v : V} {u : Value} {Q : Unit -> Shared -> Prop} (I : Inv X pins σ H s) (hN : X.N.Nodup) (hi : X.N[i]? = some x) (hx : Loc X.env.scope x) (r : RelV v u)
    (h : ∀ s', Inv X pins (σ.set i (some v)) H s' -> Q () s') (hf : X.fn x = true ∨ X.env.scope.names.lookup x = some .local := by first | exact .inl rfl | exact .inr rfl | assumption) : wpAny M A (storeName X.env x u) Q E s :=
  store_ok2 I hN hi hx r (fun s' I' _ => h s' I') hf
theorem Inv.call' {s' : Shared} {ch : List Addr} (I : Inv X pins σ H s) (ho : s'.os = s.os) (u : Un (frs X.stack) ch H H' s.heap s'.heap) (hok : HOk X.prog X.w H' s'.heap) (hg : AllBare s'.gens)
    (hch : ∀ b ∈ ch, (b ∈ X.ex ∨ X.s₀.heap.objs.size <= b) /\ b ≠ X.env.locals /\ (∀ x c, X.env.cells.lookup x = some c -> c ≠ b) /\ ∀ p ∈ X.pn ++ pins, p.1 ≠ b) : Inv X pins σ H' s' := by
  obtain ⟨h', g', d', t', o'⟩ := s'
  have e : o' = s.os := ho
  subst e
  exact I.call (g' := g') (t' := t') (d' := d') u hok hg hch
end
abbrev XK := Value -> Option Addr -> Hp -> Prop
abbrev St := List (Option V)
abbrev VK := V -> Hp -> Prop
abbrev TE := St -> Hp -> VK -> Prop
abbrev TT := St -> Hp -> (Bool -> Hp -> Prop) -> Prop
abbrev TA := St -> Hp -> (List V -> Hp -> Prop) -> Prop
structure Ends where
  nx : St -> Hp -> Prop
  rt : VK
  bk : St -> Hp -> Prop := fun _ _ => False
  ct : St -> Hp -> Prop := fun _ _ => False
abbrev TS := Ends -> St -> Hp -> Prop
def EP (X : Cx) (pins : List (Addr × Obj)) (σ : St) (Q : VK) (u : Value) (s' : Shared) : Prop := ∃ v H', Inv X pins σ H' s' /\ RelV v u /\ Q v H'
def TP (X : Cx) (pins : List (Addr × Obj)) (σ : St) (Q : Bool -> Hp -> Prop) (b : Bool) (s' : Shared) : Prop := ∃ H', Inv X pins σ H' s' /\ Q b H'
def AP (X : Cx) (pins : List (Addr × Obj)) (σ : St) (Q : List V -> Hp -> Prop) (us : List Value) (s' : Shared) : Prop := ∃ vs H', Inv X pins σ H' s' /\ Vals vs us /\ Q vs H'
def SP (X : Cx) (pins : List (Addr × Obj)) (D : Ends) (f : Flow) (s' : Shared) : Prop :=
  match f with
  | .next => ∃ σ' H', Inv X pins σ' H' s' /\ D.nx σ' H'
  | .brk => ∃ σ' H', Inv X pins σ' H' s' /\ D.bk σ' H'
  | .cont => ∃ σ' H', Inv X pins σ' H' s' /\ D.ct σ' H'
  | .ret u => ∃ v σ' H', Inv X pins σ' H' s' /\ RelV v u /\ D.rt v H'
def PE (X : Cx) (e : Expr) (t : TE) : Prop :=
  ∀ (pins : List (Addr × Obj)) (s : Shared) (σ : St) (H : Hp) (Q : VK), Inv X pins σ H s -> t σ H Q -> wpAny (model X.prog X.w) X.A (eval e X.env) (EP X pins σ Q) X.xe s
def PT (X : Cx) (e : Expr) (t : TT) : Prop :=
  ∀ (pins : List (Addr × Obj)) (s : Shared) (σ : St) (H : Hp) (Q : Bool -> Hp -> Prop), Inv X pins σ H s -> t σ H Q -> wpAny (model X.prog X.w) X.A (isTrue e X.env (eval e X.env)) (TP X pins σ Q) X.xe s
def PW (X : Cx) (e : Expr) (t : TT) : Prop :=
  ∀ (whole : Sem Value) (pins : List (Addr × Obj)) (s : Shared) (σ : St) (H : Hp) (Q : Bool -> Hp -> Prop), Inv X pins σ H s -> t σ H Q -> wpAny (model X.prog X.w) X.A (isTrue e X.env whole) (TP X pins σ Q) X.xe s
theorem PW.pt {X : Cx} {e : Expr} {t : TT} (h : PW X e t) : PT X e t := h _
def PA (X : Cx) (es : List Expr) (t : TA) : Prop :=
  ∀ (pos : Pos) (pins : List (Addr × Obj)) (s : Shared) (σ : St) (H : Hp) (Q : List V -> Hp -> Prop), Inv X pins σ H s -> t σ H Q -> wpAny (model X.prog X.w) X.A (spliced (backTo pos (starEach es X.env))) (AP X pins σ Q) X.xe s
def PS (X : Cx) (st : Stmt) (t : TS) : Prop :=
  ∀ (pins : List (Addr × Obj)) (s : Shared) (σ : St) (H : Hp) (D : Ends), Inv X pins σ H s -> t D σ H -> wpAny (model X.prog X.w) X.A (exec st X.env) (SP X pins D) X.xe s
def PSs (X : Cx) (st : List Stmt) (t : TS) : Prop :=
  ∀ (pins : List (Addr × Obj)) (s : Shared) (σ : St) (H : Hp) (D : Ends), Inv X pins σ H s -> t D σ H -> wpAny (model X.prog X.w) X.A (execs st X.env) (SP X pins D) X.xe s
theorem thn {α : Type} {t : Sem α} {Q Q' : α -> Shared -> Prop} {M : Model} {A : Around} {E : Value -> Shared -> Prop} {s : Shared} (h : wpAny M A t Q E s) (hQ : ∀ a s, Q a s -> Q' a s) : wpAny M A t Q' E s := wpAny_mono h hQ fun _ _ x => x
section
variable {X : Cx}
def tVar (i : Nat) : TE := fun σ H Q => ∃ v, σ[i]? = some (some v) /\ Q v H
def tC (v : V) : TE := fun _ H Q => Q v H
theorem pe_var {i : Nat} {x : Str} {pos : Pos} (hN : X.N[i]? = some x) (hv : Vis X.env.scope x) (hd : (x == ("__debug__" : Str)) = false := by decide) (hcd : (x == ("__classdict__" : Str)) = false := by decide) : PE X (.Name x pos) (tVar i) := by
  intro pins s σ H Q I h
  obtain ⟨v, e, h⟩ := h
  obtain ⟨m, hn, hl⟩ := I.loc
  obtain ⟨u, r, l⟩ := hl i x v hN e hv
  have fin : EP X pins σ Q u s := ⟨v, H, I, r, h⟩
  rcases l with ⟨hk, hm⟩ | ⟨hk, c, hc, hcell⟩
  · exact wpAny_Name (wpAny_loadName_local I.ok.kind hk hn hm fin) hd
  · rcases hk with hk | hk
    · exact wpAny_Name (wpAny_loadName_cell I.ok.kind hk hc hcell fin) hd
    · exact wpAny_Name (wpAny_loadName_free I.ok.kind hk hc hcell fin hcd) hd
theorem pe_int {i j pos} : PE X (.Constant (.int i) j pos) (tC (.int i)) := fun _ _ _ H _ I h => wpAny_Constant_int ⟨.int i, H, I.tok _, ⟨_, rfl⟩, h⟩
theorem pe_bl {b j pos} : PE X (.Constant (.bool b) j pos) (tC (.bl b)) := fun _ _ _ H _ I h => Constant_bool ⟨.bl b, H, I, rfl, h⟩
theorem pe_non {j pos} : PE X (.Constant .none j pos) (tC .non) := fun _ _ _ H _ I h => Constant_none ⟨.non, H, I, rfl, h⟩
theorem pe_str {x j pos} : PE X (.Constant (.str x) j pos) (tC (.str x)) := fun _ _ _ H _ I h => Calls.Constant_str ⟨.str x, H, I.tok _, ⟨_, rfl⟩, h⟩
def Gl (X : Cx) (x : Str) : Prop := X.env.kindOf x = some .globalImplicit
theorem ld_glob {E : Value -> Shared -> Prop} {pins : List (Addr × Obj)} {s : Shared} {σ : St} {H : Hp} {x : Str} {u : Value} {pos : Pos} {Q : Value -> Shared -> Prop} (I : Inv X pins σ H s) (hg : Gl X x) (hm : X.mg x = some u) (h : Q u s)
    (hd : (x == ("__debug__" : Str)) = false := by decide) : wpAny (model X.prog X.w) X.A (eval (.Name x pos) X.env) Q E s :=
  Calls.Name_function_global I.ok.kind hg (Calls.loadGlobal_global (by rw [I.ok.glob]; exact I.mod.glob.keeps I.bk) hm h) hd
theorem ld_blt {E : Value -> Shared -> Prop} {pins : List (Addr × Obj)} {s : Shared} {σ : St} {H : Hp} {x : Str} {u : Value} {pos : Pos} {Q : Value -> Shared -> Prop} (I : Inv X pins σ H s) (hg : Gl X x) (hm : X.mg x = none) (hv : bootBuiltins x = some u) (h : Q u s)
    (hn : x ≠ "__name__" := by decide) (hd : (x == ("__debug__" : Str)) = false := by decide) : wpAny (model X.prog X.w) X.A (eval (.Name x pos) X.env) Q E s := by
  obtain ⟨mb, h1, h2⟩ := I.mod.blt
  exact Calls.Name_function_global I.ok.kind hg (Calls.loadGlobal_builtin (by rw [I.ok.glob]; exact I.mod.glob.keeps I.bk) hm (by rw [I.ok.blt]; exact h1.keeps I.bk) ((h2 x hn).trans hv) h) hd
theorem pe_glob {x : Str} {v : V} {u : Value} {pos : Pos} (hg : Gl X x) (hm : X.mg x = some u) (r : RelV v u) (hd : (x == ("__debug__" : Str)) = false := by decide) : PE X (.Name x pos) (tC v) :=
  fun _ _ _ H _ I h => ld_glob I hg hm ⟨v, H, I, r, h⟩ hd
theorem pe_bltn {x : Str} {v : V} {u : Value} {pos : Pos} (hg : Gl X x) (hm : X.mg x = none) (hv : bootBuiltins x = some u) (r : RelV v u) (hn : x ≠ "__name__" := by decide) (hd : (x == ("__debug__" : Str)) = false := by decide) : PE X (.Name x pos) (tC v) :=
  fun _ _ _ H _ I h => ld_blt I hg hm hv ⟨v, H, I, r, h⟩ hn hd
variable {a b : Expr} {ta tb : TE} {pos : Pos}
def PC (X : Cx) (op : CmpOp) (a b : Expr) (t : TE) : Prop :=
  ∀ (pins : List (Addr × Obj)) (s : Shared) (σ : St) (H : Hp) (Q : VK), Inv X pins σ H s -> t σ H Q ->
    wpAny (model X.prog X.w) X.A (eval a X.env) (fun v s₁ => wpAny (model X.prog X.w) X.A (eval b X.env) (fun u s₂ => wpAny (model X.prog X.w) X.A (compareOp op v u) (EP X pins σ Q) X.xe s₂) X.xe s₁) X.xe s
def tB (t : TE) : TT := fun σ H Q => t σ H fun x H1 => ∃ c, x = .bl c /\ Q c H1
theorem pt_cmp {op : CmpOp} {t : TE} (h : PC X op a b t) (h1 : behindInMarks op b = false := by first | exact nobehind _ (by decide) (by decide) | rfl) : PT X (.Compare a [op] [b] pos) (tB t) := by
  intro pins s σ H Q I hw
  refine wpAny_isTrue_Compare1 (thn (h pins s σ H _ I hw) fun v s1 h1 => thn h1 fun u s2 h2 => thn h2 fun c s3 ⟨x, H1, I1, r1, q1⟩ => ?_) h1
  obtain ⟨d, rfl, q⟩ := q1
  cases r1
  exact wpAny_truthy_bool ⟨H1, I1, q⟩
variable {tA tB' : TT} {rest : List Expr}
def tAnd (t u : TT) : TT := fun σ H Q => t σ H fun c H1 => if c = true then u σ H1 Q else Q false H1
def tOr (t u : TT) : TT := fun σ H Q => t σ H fun c H1 => if c = true then Q true H1 else u σ H1 Q
def tNot (t : TT) : TT := fun σ H Q => t σ H fun c H1 => Q (!c) H1
theorem pw_and1 (ha : PT X a tA) : PW X (.BoolOp .And [a] pos) tA := by
  intro wh pins s σ H Q I h
  refine isTrue_and (thn (ha pins s σ H Q I h) fun c s1 e => ?_)
  cases c with
  | true => exact isTrue_and_nil e
  | false => exact e
theorem pw_or1 (ha : PT X a tA) : PW X (.BoolOp .Or [a] pos) tA := by
  intro wh pins s σ H Q I h
  refine isTrue_or (thn (ha pins s σ H Q I h) fun c s1 e => ?_)
  cases c with
  | false => exact isTrue_or_nil e
  | true => exact e
theorem pw_and (ha : PT X a tA) (hb : PW X (.BoolOp .And (b :: rest) pos) tB') : PW X (.BoolOp .And (a :: b :: rest) pos) (tAnd tA tB') := by
  intro wh pins s σ H Q I h
  refine isTrue_and (thn (ha pins s σ H _ I h) fun c s1 ⟨H1, I1, q1⟩ => ?_)
  cases c with
  | true => exact hb wh pins s1 σ H1 Q I1 q1
  | false => exact ⟨H1, I1, q1⟩
theorem pw_or (ha : PT X a tA) (hb : PW X (.BoolOp .Or (b :: rest) pos) tB') : PW X (.BoolOp .Or (a :: b :: rest) pos) (tOr tA tB') := by
  intro wh pins s σ H Q I h
  refine isTrue_or (thn (ha pins s σ H _ I h) fun c s1 ⟨H1, I1, q1⟩ => ?_)
  cases c with
  | true => exact ⟨H1, I1, q1⟩
  | false => exact hb wh pins s1 σ H1 Q I1 q1
theorem pt_not (ha : PT X a tA) : PT X (.UnaryOp .Not a pos) (tNot tA) := by
  intro pins s σ H Q I h
  exact isTrue_not (ha pins s σ H (fun c H1 => Q (!c) H1) I h)
def tAndV (ta tb : TE) : TE := fun σ H Q => ta σ H fun x H1 => ∃ c, x = .bl c /\ if c = true then tb σ H1 Q else Q (.bl false) H1
def tNotV (ta : TE) : TE := fun σ H Q => ta σ H fun x H1 => ∃ c, x = .bl c /\ Q (.bl (!c)) H1
theorem pe_one {op} {t : TE} (h : PE X a t) : PE X (.BoolOp op [a] pos) t := fun pins s σ H Q I hw => BoolOp_one (h pins s σ H Q I hw)
theorem pe_and (ha : PE X a ta) (hb : PE X (.BoolOp .And (b :: rest) pos) tb) : PE X (.BoolOp .And (a :: b :: rest) pos) (tAndV ta tb) := by
  intro pins s σ H Q I h
  refine BoolOp_and (thn (ha pins s σ H _ I h) fun v s1 ⟨x, H1, I1, r1, q1⟩ => ?_)
  obtain ⟨c, rfl, q1⟩ := q1
  cases r1
  refine wpAny_truthy_bool ?_
  cases c with
  | true => exact hb pins s1 σ H1 Q I1 q1
  | false => exact ⟨.bl false, H1, I1, rfl, q1⟩
theorem pe_not (ha : PE X a ta) : PE X (.UnaryOp .Not a pos) (tNotV ta) := by
  intro pins s σ H Q I h
  refine UnaryOp_ (thn (ha pins s σ H _ I h) fun v s1 ⟨x, H1, I1, r1, q1⟩ => ?_)
  obtain ⟨c, rfl, q1⟩ := q1
  cases r1
  exact not_of (wpAny_truthy_bool ⟨.bl (!c), H1, I1, rfl, q1⟩)
end
def SqL (K : PySem.W.Frag) (H : Hp) (a : Addr) (xs : List V) : Prop :=
  Rd H a (.lst xs) ∨
    ∃ (o : Obj) (its : Array Value) (n : Nat), K.lookup a = some o /\ o.cls = .type "list" /\ o.dict = none /\ o.data = .seq its n /\ its.size <= sizeLine /\ Vals xs its.toList
def SqT (K : PySem.W.Frag) (H : Hp) (a : Addr) (xs : List V) : Prop :=
  Rd H a (.tup xs) ∨
    ∃ (o : Obj) (its : Array Value) (n : Nat), K.lookup a = some o /\ o.cls = .type "tuple" /\ o.data = .seq its n /\ its.size <= sizeLine /\ Vals xs its.toList
def absV : Value -> Option V
  | .none => some .non
  | .bool b => some (.bl b)
  | .int i _ => some (.int i)
  | .str x _ => some (.str x)
  | .bytes b _ => some (.byt b)
  | .float b _ => some (.flt b)
  | .ref a => some (.ref a)
  | .type n => some (.ty n)
  | _ => none
theorem RelV.abs {x : V} {u : Value} (r : RelV x u) : absV u = some x := by
  cases x with
  | non => cases r; rfl
  | bl _ => cases r; rfl
  | int _ => obtain ⟨t, rfl⟩ := r; rfl
  | str _ => obtain ⟨t, rfl⟩ := r; rfl
  | byt _ => obtain ⟨t, rfl⟩ := r; rfl
  | flt _ => obtain ⟨t, rfl⟩ := r; rfl
  | ref _ => cases r; rfl
  | ty _ => cases r; rfl
theorem RelV.inj {x y : V} {u : Value} (r : RelV x u) (q : RelV y u) : x = y := Option.some.inj (r.abs.symm.trans q.abs)
theorem Vals.inj : ∀ {xs ys : List V} {us : List Value}, Vals xs us -> Vals ys us -> xs = ys
  | _, _, _, .nil, .nil => rfl
  | _, _, _, .cons r t, .cons r' t' => by rw [r.inj r', Vals.inj t t']
section
variable {X : Cx} {pins : List (Addr × Obj)} {σ : St} {H : Hp} {s : Shared} {a : Addr} {xs ys : List V}
theorem SqL.of {K : PySem.W.Frag} (h : H a = some (.lst xs)) : SqL K H a xs := .inl (.inl h)
theorem SqT.of {K : PySem.W.Frag} (h : H a = some (.tup xs)) : SqT K H a xs := .inl (.inl h)
theorem Inv.list (I : Inv X pins σ H s) (h : SqL X.K H a xs) : ∃ its : List Value, Vals xs its /\ PlainL s.heap a its.toArray /\ xs.length <= sizeLine := by
  rcases h with h | ⟨o, its, n, hk, hc, hd, hs, hz, r⟩
  · obtain ⟨z, its, n, r, e⟩ := h.ok I.hok
    exact ⟨its, r, ⟨_, n, e, rfl, rfl, rfl⟩, z⟩
  · refine ⟨its.toList, r, ⟨o, n, I.kIn a o hk, hc, hd, by simpa using hs⟩, ?_⟩
    have e := r.length
    simp only [Array.length_toList] at e
    omega
theorem Inv.tuple (I : Inv X pins σ H s) (h : SqT X.K H a xs) : ∃ its : List Value, Vals xs its /\ IsTup s.heap a its.toArray /\ xs.length <= sizeLine := by
  rcases h with h | ⟨o, its, n, hk, hc, hs, hz, r⟩
  · obtain ⟨z, its, r, p⟩ := h.ok I.hok
    exact ⟨its, r, p, z⟩
  · refine ⟨its.toList, r, ⟨o, I.kIn a o hk, hc, n, by simpa using hs⟩, ?_⟩
    have e := r.length
    simp only [Array.length_toList] at e
    omega
theorem Inv.list_inj (I : Inv X pins σ H s) (h : SqL X.K H a xs) (h' : SqL X.K H a ys) : xs = ys := by
  obtain ⟨its, r, ⟨o, n, e, _, _, d⟩, _⟩ := I.list h
  obtain ⟨its', r', ⟨o', n', e', _, _, d'⟩, _⟩ := I.list h'
  rw [e] at e'; cases e'
  rw [d] at d'
  injection d' with d1 _
  have : its = its' := by simpa using congrArg Array.toList d1
  subst this
  exact r.inj r'
end
abbrev Cx.wish (X : Cx) (E : Value -> Shared -> Prop) : Cx := { X with xe := E }
abbrev Cx.nox (X : Cx) : Cx := X.wish fun _ _ => False
theorem Cx.Ok.wish {X : Cx} (ok : X.Ok) (E : Value -> Shared -> Prop) : (X.wish E).Ok :=
  ⟨ok.mod, ok.kind, ok.glob, ok.blt, ok.above, ok.inj, ok.has, ok.cab, ok.hd, ok.frames, ok.stk, ok.exf, ok.bs, ok.bsz, ok.noex, ok.exfs, ok.funs, ok.frf⟩
theorem Cx.Ok.unwish {X : Cx} {E : Value -> Shared -> Prop} (ok : (X.wish E).Ok) : X.Ok :=
  ⟨ok.mod, ok.kind, ok.glob, ok.blt, ok.above, ok.inj, ok.has, ok.cab, ok.hd, ok.frames, ok.stk, ok.exf, ok.bs, ok.bsz, ok.noex, ok.exfs, ok.funs, ok.frf⟩
section
variable {X : Cx} {pins : List (Addr × Obj)} {σ : St} {H : Hp} {s : Shared} {E : Value -> Shared -> Prop}
theorem Inv.wish (I : Inv X pins σ H s) (E : Value -> Shared -> Prop) : Inv (X.wish E) pins σ H s := ⟨I.ok.wish E, I.os, I.bare, I.base, I.loc, I.cell, I.free, I.freeC, I.pin, I.hok, I.len⟩
theorem Inv.unwish (I : Inv (X.wish E) pins σ H s) : Inv X pins σ H s := ⟨I.ok.unwish, I.os, I.bare, I.base, I.loc, I.cell, I.free, I.freeC, I.pin, I.hok, I.len⟩
theorem SP.unwish {D : Ends} {f : Flow} {s' : Shared} (h : SP (X.wish E) pins D f s') : SP X pins D f s' := by
  cases f with
  | next => obtain ⟨σ', H', I, q⟩ := h; exact ⟨σ', H', I.unwish, q⟩
  | brk => obtain ⟨σ', H', I, q⟩ := h; exact ⟨σ', H', I.unwish, q⟩
  | cont => obtain ⟨σ', H', I, q⟩ := h; exact ⟨σ', H', I.unwish, q⟩
  | ret u => obtain ⟨v, σ', H', I, r, q⟩ := h; exact ⟨v, σ', H', I.unwish, r, q⟩
theorem PT.nox {e : Expr} {t : TT} (h : PT X.nox e t) : PT X e t := fun pins s σ H Q I hw =>
  wpAny_mono (h pins s σ H Q (I.wish _) hw) (fun _ _ ⟨H', I', q⟩ => ⟨H', I'.unwish, q⟩) fun _ _ z => False.elim z
theorem PSs.nox {st : List Stmt} {t : TS} (h : PSs X.nox st t) : PSs X st t := fun pins s σ H D I hw =>
  wpAny_mono (h pins s σ H D (I.wish _) hw) (fun _ _ q => q.unwish) fun _ _ z => False.elim z
end
section
variable {X : Cx} {st : Stmt} {rest : List Stmt} {t u : TS} {e : Expr} {te : TE} {pos : Pos}
def tNext : TS := fun D σ H => D.nx σ H
def tSeq (t u : TS) : TS := fun D σ H => t { D with nx := u D } σ H
theorem pss_nil : PSs X [] tNext := fun _ _ σ H _ I h => wpAny_execs_nil ⟨σ, H, I, h⟩
theorem pss_cons (h1 : PS X st t) (h2 : PSs X rest u) : PSs X (st :: rest) (tSeq t u) := by
  intro pins s σ H D I h
  refine wpAny_execs_cons (thn (h1 pins s σ H { D with nx := u D } I h) fun f s1 q => ?_)
  cases f with
  | next =>
    obtain ⟨σ', H', I', q⟩ := q
    exact h2 pins s1 σ' H' D I' q
  | ret v => exact q
  | brk => exact q
  | cont => exact q
theorem pss_one (h1 : PS X st t) : PSs X [st] t := by
  intro pins s σ H D I h
  refine wpAny_execs_cons (thn (h1 pins s σ H D I h) fun f s1 q => ?_)
  cases f with
  | next => exact wpAny_execs_nil q
  | ret v => exact q
  | brk => exact q
  | cont => exact q
theorem Inv.quiet {pins : List (Addr × Obj)} {σ : St} {H : Hp} {s : Shared} (I : Inv X pins σ H s) : interactive X.env = false := by simp [interactive, I.ok.kind]
def tDrop (te : TE) : TS := fun D σ H => te σ H fun _ H1 => D.nx σ H1
theorem ps_expr (he : PE X e te) (hs : swapsWith e none pos.line X.env = pure false := by rfl) : PS X (.Expr e pos) (tDrop te) := by
  intro pins s σ H D I h
  exact wpAny_Expr_any (thn (he pins s σ H _ I h) fun v s1 ⟨x, H1, I1, r1, q1⟩ => ⟨σ, H1, I1, q1⟩) I.quiet hs
def tRet (te : TE) : TS := fun D σ H => te σ H D.rt
theorem ps_ret (he : PE X e te) : PS X (.Return (some e) pos) (tRet te) := by
  intro pins s σ H D I h
  exact wpAny_Return_some (thn (he pins s σ H _ I h) fun v s1 ⟨x, H1, I1, r1, q1⟩ => ⟨x, σ, H1, I1, r1, q1⟩)
def tIfS (c : TT) (t u : TS) : TS := fun D σ H => c σ H fun b H1 => if b = true then t D σ H1 else u D σ H1
theorem ps_if {c : Expr} {a b : List Stmt} {tc : TT} (hc : PT X c tc) (ha : PSs X a t) (hb : PSs X b u) : PS X (.If c a b pos) (tIfS tc t u) := by
  intro pins s σ H D I h
  refine wpAny_If (thn (hc pins s σ H _ I h) fun d s1 ⟨H1, I1, q1⟩ => ?_)
  cases d with
  | true => exact ha pins s1 σ H1 D I1 q1
  | false => exact hb pins s1 σ H1 D I1 q1
def tNever : TS := fun _ _ _ => False
theorem ps_never : PS X st tNever := fun _ _ _ _ _ _ h => h.elim
end
abbrev TG := V -> St -> Hp -> (St -> Hp -> Prop) -> Prop
abbrev TGs := List V -> St -> Hp -> (St -> Hp -> Prop) -> Prop
def PG (X : Cx) (target : Expr) (t : TG) : Prop :=
  ∀ (pins : List (Addr × Obj)) (s : Shared) (σ : St) (H : Hp) (v : V) (u : Value) (Q : St -> Hp -> Prop), Inv X pins σ H s -> RelV v u -> t v σ H Q ->
    wpAny (model X.prog X.w) X.A (assign target X.env u) (fun _ s' => ∃ σ' H', Inv X pins σ' H' s' /\ Q σ' H') X.xe s
def PGs (X : Cx) (ts : List Expr) (t : TGs) : Prop :=
  ∀ (pins : List (Addr × Obj)) (s : Shared) (σ : St) (H : Hp) (vs : List V) (us : List Value) (Q : St -> Hp -> Prop), Inv X pins σ H s -> Vals vs us -> t vs σ H Q ->
    wpAny (model X.prog X.w) X.A (assignInOrder ((assignEach ts X.env).map (·.2)) us) (fun _ s' => ∃ σ' H', Inv X pins σ' H' s' /\ Q σ' H') X.xe s
section
variable {X : Cx} {pos : Pos}
def gName (i : Nat) : TG := fun v σ H Q => Q (σ.set i (some v)) H
theorem pg_name {i : Nat} {x : Str} (hN : X.N.Nodup) (hi : X.N[i]? = some x) (hx : Loc X.env.scope x) (hf : X.fn x = true ∨ X.env.scope.names.lookup x = some .local := by first | exact .inl rfl | exact .inr rfl | assumption) : PG X (.Name x pos) (gName i) := by
  intro pins s σ H v u Q I r h
  exact wpAny_assign_Name (store_ok I hN hi hx r (fun s' I' => ⟨_, H, I', h⟩) hf)
def gNil : TGs := fun vs σ H Q => vs = [] /\ Q σ H
def gCons (t : TG) (u : TGs) : TGs := fun vs σ H Q => ∃ v r, vs = v :: r /\ t v σ H fun σ' H' => u r σ' H' Q
theorem pgs_nil : PGs X [] gNil := by
  intro pins s σ H vs us Q I r h
  obtain ⟨e, h⟩ := h
  subst e
  cases r
  exact assignInOrder_nil ⟨σ, H, I, h⟩
theorem pgs_cons {e : Expr} {es : List Expr} {t : TG} {u : TGs} (h1 : PG X e t) (h2 : PGs X es u)
    (hs : (assignEach (e :: es) X.env).map (·.2) = assign e X.env :: (assignEach es X.env).map (·.2) := by rfl) : PGs X (e :: es) (gCons t u) := by
  intro pins s σ H vs us Q I r h
  obtain ⟨v, vr, e1, h⟩ := h
  subst e1
  cases r with
  | cons r rr =>
    rw [hs]
    refine assignInOrder_cons (thn (h1 pins s σ H _ _ _ I r h) fun _ s1 ⟨σ1, H1, I1, q1⟩ => ?_)
    exact h2 pins s1 σ1 H1 _ _ Q I1 rr q1
def gTup (K : PySem.W.Frag) (n : Nat) (t : TGs) : TG := fun v σ H Q => ∃ a xs, v = .ref a /\ SqT K H a xs /\ xs.length = n /\ t xs σ H Q
theorem pg_tup {es : List Expr} {k : Nat} {t : TGs} {n : Nat} (hc : X.calm = true) (h : PGs X es t)
    (hn : (assignEach es X.env).length = n := by rfl) (hst : (assignEach es X.env).findIdx? (·.1) = none := by rfl) : PG X (.Tuple es k pos) (gTup X.K n t) := by
  intro pins s σ H v u Q I r hw
  obtain ⟨a, xs, e1, hq, hl, hw⟩ := hw
  subst e1
  cases r
  obtain ⟨its, rv, ht, hz⟩ := I.tuple hq
  refine assign_Tuple_tuple (I.ok.hd hc) ht (by simp [hn, <- hl, rv.length]) hst fun h' hx => ?_
  have I1 : Inv X pins σ H { s with heap := h' } := I.kept (t' := s.toks) fun b o e => hx b o (Nat.ne_of_lt (Heap.lt_size e)) e
  exact h pins _ σ H xs _ Q I1 (by simpa using rv) hw
def tAsg (te : TE) (g : TG) : TS := fun D σ H => te σ H fun x H1 => g x σ H1 D.nx
theorem ps_asg {tg e : Expr} {te : TE} {g : TG} (he : PE X e te) (hg : PG X tg g) (hs : swapsWithSole [tg] e pos.line X.env = pure false := by rfl) (hw : swappedStores [tg] e X.env = pure none := by rfl)
    (h1 : (assignEach [tg] X.env).map (·.2) = [assign tg X.env] := by rfl) : PS X (.Assign [tg] e pos) (tAsg te g) := by
  intro pins s σ H D I h
  refine wpAny_Assign_stores (thn (he pins s σ H _ I h) fun v s1 ⟨x, H1, I1, r1, q1⟩ => ?_) hs hw
  rw [h1]
  exact thn (hg pins s1 σ H1 x v _ I1 r1 q1) fun _ s2 q => q
theorem ps_set {i : Nat} {x : Str} {e : Expr} {te : TE} {pos' : Pos} (hN : X.N.Nodup) (hi : X.N[i]? = some x) (hx : Loc X.env.scope x) (he : PE X e te) (hs : swapsWith e (some (.Name x pos')) pos.line X.env = pure false := by rfl) (hf : X.fn x = true ∨ X.env.scope.names.lookup x = some .local := by first | exact .inl rfl | exact .inr rfl | assumption) :
    PS X (.Assign [.Name x pos'] e pos) (tAsg te (gName i)) := by
  intro pins s σ H D I h
  refine wpAny_Assign_Name (thn (he pins s σ H _ I h) fun v s1 ⟨y, H1, I1, r1, q1⟩ => ?_) hs
  exact store_ok I1 hN hi hx r1 (fun s2 I2 => ⟨_, H1, I2, q1⟩) hf
end
section
variable {X : Cx} {pos : Pos}
end
structure It where
  go : Nat -> Hp -> Prop
  yld : Nat -> Hp -> V -> Hp -> Prop
  stop : Nat -> Hp -> Prop
def FpOk (X : Cx) (pins : List (Addr × Obj)) (H : Hp) (b : Addr) : Prop :=
  H b = none /\ b ≠ X.env.locals /\ b ∉ X.fs /\ (b ∈ X.ex ∨ X.s₀.heap.objs.size <= b) /\ (∀ x c, X.env.cells.lookup x = some c -> c ≠ b) /\ ∀ p ∈ X.pn ++ pins, p.1 ≠ b
theorem Inv.fpOk {X : Cx} {pins : List (Addr × Obj)} {σ : St} {H H' : Hp} {s : Shared} {b : Addr} (I : Inv X pins σ H s) (hb : s.heap.objs.size <= b) (hn : H' b = none) : FpOk X pins H' b := by
  refine ⟨hn, Nat.ne_of_gt (Nat.lt_of_lt_of_le I.lt hb), I.nofs hb, .inr (Nat.le_trans I.sz hb), fun x c e z => ?_, fun p hp z => ?_⟩
  · obtain ⟨v, q⟩ := I.cell x c e
    exact absurd (Nat.lt_of_lt_of_le q.lt (by rw [z]; exact hb)) (Nat.lt_irrefl _)
  · exact absurd (Nat.lt_of_lt_of_le (Heap.lt_size (I.pin p hp).1) (by rw [z]; exact hb)) (Nat.lt_irrefl _)
structure Turn (P : Program) (w : World) (K : PySem.W.Frag) (tg : Expr) (J : It) (fp : List Addr) (it : Addr) (tn : Nat -> Heap -> Prop) : Prop where
  mem : it ∈ fp
  obj : ∀ i h, tn i h -> ∀ b ∈ fp, ∃ o, h.get? b = some o /\ ∀ v, o.data ≠ .cell v
  keep : ∀ i h h', tn i h -> (∀ b ∈ fp, ∀ o, h.get? b = some o -> h'.get? b = some o) -> tn i h'
  item : ∀ (X : Cx), X.prog = P -> X.w = w -> X.K = K -> X.calm = true -> ∀ (i : Nat) (pins : List (Addr × Obj)) (s : Shared) (σ : St) (H : Hp) (E : Value -> Shared -> Prop), Inv X pins σ H s -> (∀ b ∈ fp, FpOk X pins H b) -> tn i s.heap -> J.go i H ->
    wpAny (model P w) X.A (pyNext (.ref it)) (fun r s1 => ∃ u, r = some u /\
      wpAny (model P w) X.A (letOwnedTupleGo tg (.ref it) u) (fun _ s2 => ∃ x H', Inv X pins σ H' s2 /\ RelV x u /\ J.yld i H x H' /\ tn (i + 1) s2.heap /\ ∀ b ∈ fp, H' b = none) E s1) E s
  done : ∀ (X : Cx), X.prog = P -> X.w = w -> X.K = K -> X.calm = true -> ∀ (i : Nat) (pins : List (Addr × Obj)) (s : Shared) (σ : St) (H : Hp) (E : Value -> Shared -> Prop), Inv X pins σ H s -> (∀ b ∈ fp, FpOk X pins H b) -> tn i s.heap -> J.stop i H ->
    wpAny (model P w) X.A (pyNext (.ref it)) (fun r s1 => r = none /\ Inv X pins σ H s1) E s
  self : ∀ (A : Around) (i : Nat) (s : Shared) (Q : Value -> Shared -> Prop) (E : Value -> Shared -> Prop), tn i s.heap -> Q (.ref it) s -> wpAny (model P w) A (pyIter (.ref it)) Q E s
abbrev TI := St -> Hp -> (It -> Hp -> Prop) -> Prop
def PIE (X : Cx) (pins : List (Addr × Obj)) (σ : St) (tg : Expr) (R : It -> Hp -> Prop) (itv : Value) (s2 : Shared) : Prop :=
  ∃ (it : Addr) (fp : List Addr) (tn : Nat -> Heap -> Prop) (J : It) (H' : Hp), itv = .ref it /\ Inv X pins σ H' s2 /\ Turn X.prog X.w X.K tg J fp it tn /\ tn 0 s2.heap /\ (∀ b ∈ fp, FpOk X pins H' b) /\ R J H'
def PI (X : Cx) (tg iter : Expr) (wi : TI) : Prop :=
  ∀ (pins : List (Addr × Obj)) (s : Shared) (σ : St) (H : Hp) (R : It -> Hp -> Prop), Inv X pins σ H s -> wi σ H R ->
    wpAny (model X.prog X.w) X.A (eval iter X.env) (fun v s1 => wpAny (model X.prog X.w) X.A (pyIter v) (PIE X pins σ tg R) X.xe s1) X.xe s
theorem go_of {M : Model} {A : Around} {E : Value -> Shared -> Prop} {s : Shared} {tg : Expr} {it : Addr} {u : Value} {o : Obj} {n : String} {vs : Array Value} {Q : Unit -> Shared -> Prop} (ho : s.heap.get? it = some o) (hc : o.cls = .type n) (hd : o.data = .fields vs)
    (hn : ["enumerate", "zip", "dict_itemiterator", "dict_reverseitemiterator", "odict_iterator", "itertools.zip_longest", "itertools.pairwise"].contains n = false) (hQ : Q () s) : wpAny M A (letOwnedTupleGo tg (.ref it) u) Q E s := by
  unfold letOwnedTupleGo
  cases tg <;> first
    | exact wpAny_pure hQ
    | (cases u <;> first
        | exact wpAny_pure hQ
        | (refine wpAny_bind (wpAny_load ho ?_)
           rw [hc, hd]
           show wpAny M A (if (["enumerate", "zip", "dict_itemiterator", "dict_reverseitemiterator", "odict_iterator", "itertools.zip_longest", "itertools.pairwise"].contains n && vs[0]? == some (rawInt _)) = true then _ else _) Q E s
           rw [if_neg (by intro h; rw [hn, Bool.false_and] at h; cases h)]
           exact wpAny_pure hQ))
def Itl (K : PySem.W.Frag) (a : Addr) : It :=
  ⟨fun i H => ∃ xs x, SqL K H a xs /\ xs[i]? = some x, fun i H x H' => H' = H /\ ∀ xs, SqL K H a xs -> xs[i]? = some x, fun i H => ∃ xs, SqL K H a xs /\ xs.length <= i⟩
def Itr (lo : Int) (n : Nat) : It := ⟨fun i _ => i < n, fun i H x H' => H' = H /\ x = .int (lo + i), fun i _ => n <= i⟩
theorem turn_list {P : Program} {w : World} {K : PySem.W.Frag} {tg : Expr} (a it : Addr) : Turn P w K tg (Itl K a) [it] it (fun i h => h.IsListIter it a i) where
  mem := by simp
  obj := fun i h st b hb => by
    have e : b = it := by simpa using hb
    subst e
    obtain ⟨o, e, c, d⟩ := st
    exact ⟨o, e, fun v z => by rw [d] at z; cases z⟩
  keep := fun i h h' st k => st.at fun o e => k it (by simp) o e
  item := by
    intro X hP hw hK hc i pins s σ H E I hf st hg
    subst hP hw hK
    obtain ⟨xs, x, hq, hx⟩ := hg
    obtain ⟨its, rv, p, hz⟩ := I.list hq
    obtain ⟨u, hu, ru⟩ := rv.get hx
    obtain ⟨f0, f1, f2, f3, f4, f5⟩ := hf it (by simp)
    refine wpAny_pyNext_list_item st p.isList (x := u) (by simpa using hu) fun h' st' sb => ?_
    have I1 : Inv X pins σ H { s with heap := h' } := I.turned (t' := s.toks) (fun b o hb e => (sb.2 b hb).trans e) f0 f1 f3 f4 f5
    obtain ⟨o, e, c, d⟩ := id st'
    exact ⟨u, rfl, go_of (s := { s with heap := h' }) e c d (by decide) ⟨x, H, I1, ru, ⟨rfl, fun ys hy => by rw [I.list_inj hy hq]; exact hx⟩, st', fun b hb => (hf b hb).1⟩⟩
  done := by
    intro X hP hw hK hc i pins s σ H E I hf st hg
    subst hP hw hK
    obtain ⟨xs, hq, hx⟩ := hg
    obtain ⟨its, rv, p, hz⟩ := I.list hq
    obtain ⟨f0, f1, f2, f3, f4, f5⟩ := hf it (by simp)
    have hl := rv.length
    exact wpAny_pyNext_list_end (I.ok.hd hc) st p.isList (by simp; omega) fun h' eb => ⟨rfl, I.turned (t' := s.toks) (fun b o hb e => eb b o hb e) f0 f1 f3 f4 f5⟩
  self := fun _ _ _ _ _ st h => wpAny_pyIter_listiter st h
theorem turn_range {P : Program} {w : World} {K : PySem.W.Frag} {tg : Expr} (it : Addr) (lo : Int) (n : Nat) : Turn P w K tg (Itr lo n) [it] it (fun i h => IsRangeIter h it (lo + (i : Nat) * 1) ((n : Int) - (i : Nat)) 1) where
  mem := by simp
  obj := fun i h st b hb => by
    have e : b = it := by simpa using hb
    subst e
    exact ⟨_, st, fun v z => by
      have z' : Data.fields _ = Data.cell v := z
      cases z'⟩
  keep := fun i h h' st k => k it (by simp) _ st
  item := by
    intro X hP hw hK hc i pins s σ H E I hf st hg
    subst hP hw hK
    obtain ⟨f0, f1, f2, f3, f4, f5⟩ := hf it (by simp)
    have W := Walks.range (prog := X.prog) (w := X.w) (I.ok.hd hc) it lo 1 n
    refine W.item i s _ _ hg st fun v h' tk hv st' kk => ?_
    obtain ⟨t, rfl⟩ := hv
    have I1 : Inv X pins σ H { s with heap := h', toks := tk } := I.turned (fun b o hb e => kk b o (by simpa using hb) e) f0 f1 f3 f4 f5
    refine ⟨_, rfl, go_of (s := { s with heap := h', toks := tk }) (n := "range_iterator") st' rfl rfl (by decide) ⟨.int (lo + i), H, I1, ⟨t, ?_⟩, ⟨rfl, rfl⟩, st', fun b hb => (hf b hb).1⟩⟩
    rw [Int.mul_one]
  done := by
    intro X hP hw hK hc i pins s σ H E I hf st hg
    subst hP hw hK
    obtain ⟨f0, f1, f2, f3, f4, f5⟩ := hf it (by simp)
    exact wpAny_pyNext_range_end (I.ok.hd hc) st (by have : n <= i := hg; omega) fun h' eb => ⟨rfl, I.turned (t' := s.toks) (fun b o hb e => eb b o hb e) f0 f1 f3 f4 f5⟩
  self := fun _ _ _ _ _ st h => wpAny_pyIter_rangeiter st h
section
variable {X : Cx} {tg : Expr}
def iList (K : PySem.W.Frag) (tl : TE) : TI := fun σ H R => tl σ H fun x H1 => ∃ a, x = .ref a /\ (∃ xs, SqL K H1 a xs) /\ R (Itl K a) H1
theorem pi_list {l : Expr} {tl : TE} (hl : PE X l tl) : PI X tg l (iList X.K tl) := by
  intro pins s σ H R I h
  refine thn (hl pins s σ H _ I h) fun v s1 ⟨x, H1, I1, r1, q1⟩ => ?_
  obtain ⟨a, e, ⟨xs, hq⟩, q⟩ := q1
  subst e
  cases r1
  obtain ⟨its, rv, p, hz⟩ := I1.list hq
  refine wpAny_pyIter_list p.isList ?_
  refine ⟨s1.heap.objs.size, [s1.heap.objs.size], _, _, H1, rfl, I1.kept (t' := s1.toks) fun b o e => Heap.get?_push_of_some _ e, turn_list a _, ⟨_, Heap.get?_push_size _ rfl, rfl, rfl⟩, fun b hb => ?_, q⟩
  have e : b = s1.heap.objs.size := by simpa using hb
  subst e
  exact I1.fpOk (Nat.le_refl _) (I1.hok.fresh (Nat.le_refl _))
theorem range_it {pins : List (Addr × Obj)} {σ : St} {H : Hp} {s : Shared} {R : It -> Hp -> Prop} {E : Value -> Shared -> Prop} {lo hi : Int} {t u v : Tok} {tk : Nat} (I : Inv X pins σ H s) (h1 : -(2 ^ 62) <= lo) (h2 : lo < 2 ^ 62) (h3 : -(2 ^ 62) <= hi) (h4 : hi < 2 ^ 62)
    (q : R (Itr lo (hi - lo).toNat) H) : wpAny (model X.prog X.w) X.A (pyIter (.ref s.heap.objs.size)) (PIE X pins σ tg R) E { s with heap := s.heap.push { cls := .type "range", data := .fields #[.int lo t, .int hi u, .int 1 v] }, toks := tk } := by
  refine wpAny_pyIter_range (IsRange.new ..) (small_one h1 h2 h3 h4) ?_
  have I1 : Inv X pins σ H { s with heap := s.heap.push { cls := .type "range", data := .fields #[.int lo t, .int hi u, .int 1 v] }, toks := tk } := I.kept fun b o e => Heap.get?_push_of_some _ e
  refine ⟨(s.heap.push { cls := .type "range", data := .fields #[.int lo t, .int hi u, .int 1 v] }).objs.size, [(s.heap.push { cls := .type "range", data := .fields #[.int lo t, .int hi u, .int 1 v] }).objs.size], _, _, H, rfl,
    I1.kept (t' := tk) fun b o e => Heap.get?_push_of_some _ e, turn_range _ lo (hi - lo).toNat, ?_, fun b hb => ?_, q⟩
  · have e1 : lo + ((0 : Nat) : Int) * 1 = lo := by simp
    have e2 : (((hi - lo).toNat : Nat) : Int) - ((0 : Nat) : Int) = Builtin.Range.rangeSize lo hi 1 := by rw [rangeSize_one]; split <;> omega
    show IsRangeIter _ _ (lo + ((0 : Nat) : Int) * 1) ((((hi - lo).toNat : Nat) : Int) - ((0 : Nat) : Int)) 1
    rw [e1, e2]
    exact Heap.get?_push_size _ rfl
  · have e : b = (s.heap.push { cls := .type "range", data := .fields #[.int lo t, .int hi u, .int 1 v] }).objs.size := by simpa using hb
    subst e
    exact I1.fpOk (Nat.le_refl _) (I1.hok.fresh (Nat.le_refl _))
def iRng1 (ta : TA) : TI := fun σ H R => ta σ H fun vs H1 => ∃ j : Int, vs = [.int j] /\ -(2 ^ 62) <= j /\ j < 2 ^ 62 /\ R (Itr 0 j.toNat) H1
def iRng2 (ta : TA) : TI := fun σ H R => ta σ H fun vs H1 => ∃ i j : Int, vs = [.int i, .int j] /\ (-(2 ^ 62) <= i /\ i < 2 ^ 62 /\ -(2 ^ 62) <= j /\ j < 2 ^ 62) /\ R (Itr i (j - i).toNat) H1
theorem pi_range1 {a : Expr} {ta : TA} {p pos : Pos} (hg : Gl X "range") (hm : X.mg "range" = none) (ha : PA X [a] ta) (hs : starEach [a] X.env = [(false, eval a X.env)] := by rfl) : PI X tg (.Call (.Name "range" p) [a] [] pos) (iRng1 ta) := by
  intro pins s σ H R I h
  refine Call_ (ld_blt I hg hm boot_range (PyProof.Rows.callWith_type1 (thn (ha pos pins s σ H _ I h) fun us s1 ⟨vs, H1, I1, r1, q1⟩ => ?_) hs rfl))
  obtain ⟨j, e, q1, q2, q⟩ := q1
  subst e
  cases r1 with
  | cons r rr =>
    cases rr
    obtain ⟨t, rfl⟩ := r
    exact call_range_1 (range_it I1 (by omega) (by omega) q1 q2 (by simpa using q))
theorem pi_range2 {a b : Expr} {ta : TA} {p pos : Pos} (hg : Gl X "range") (hm : X.mg "range" = none) (ha : PA X [a, b] ta) (hs : starEach [a, b] X.env = [(false, eval a X.env), (false, eval b X.env)] := by rfl) (hs2 : starEach [b] X.env = [(false, eval b X.env)] := by rfl) :
    PI X tg (.Call (.Name "range" p) [a, b] [] pos) (iRng2 ta) := by
  intro pins s σ H R I h
  refine Call_ (ld_blt I hg hm boot_range (PyProof.Rows.callWith_type1 (thn (ha pos pins s σ H _ I h) fun us s1 ⟨vs, H1, I1, r1, q1⟩ => ?_) (by rw [hs, hs2]) (by rw [hs2]; rfl)))
  obtain ⟨i, j, e, ⟨q1, q2, q3, q4⟩, q⟩ := q1
  subst e
  cases r1 with
  | cons r rr =>
    cases rr with
    | cons r' rr =>
      cases rr
      obtain ⟨t, rfl⟩ := r
      obtain ⟨t', rfl⟩ := r'
      exact call_range_2 (range_it I1 q1 q2 q3 q4 q)
def tFor (wi : TI) (g : TG) (tb : TS) : TS := fun D σ H => wi σ H fun J H1 => ∃ W : Nat -> Nat -> St -> Hp -> Prop, (∃ m, W 0 m σ H1) /\ ∀ i m σ H, W i m σ H ->
  (J.stop i H /\ D.nx σ H) ∨ (J.go i H /\ ∃ N : St -> Hp -> Prop, (∀ σ' H', N σ' H' -> ∃ m', m' < m /\ W (i + 1) m' σ' H') /\ ∀ x H', J.yld i H x H' -> g x σ H' fun σ2 H2 => tb { D with nx := N, ct := N, bk := D.nx } σ2 H2)
def pinsAt (fp : List Addr) (h : Heap) : List (Addr × Obj) := fp.filterMap fun b => (h.get? b).map fun o => (b, o)
theorem mem_pinsAt {fp : List Addr} {h : Heap} {b : Addr} {o : Obj} (hb : b ∈ fp) (e : h.get? b = some o) : (b, o) ∈ pinsAt fp h := List.mem_filterMap.mpr ⟨b, hb, by rw [e]; rfl⟩
theorem of_pinsAt {fp : List Addr} {h : Heap} {p : Addr × Obj} (hp : p ∈ pinsAt fp h) : p.1 ∈ fp /\ h.get? p.1 = some p.2 := by
  obtain ⟨b, hb, e⟩ := List.mem_filterMap.mp hp
  cases q : h.get? b with
  | none => rw [q] at e; cases e
  | some o =>
    rw [q] at e
    have e' : (b, o) = p := Option.some.inj e
    subst e'
    exact ⟨hb, q⟩
theorem Inv.pinned {pins : List (Addr × Obj)} {σ : St} {H : Hp} {s : Shared} {fp : List Addr} (I : Inv X pins σ H s) (hf : ∀ b ∈ fp, FpOk X pins H b) (ho : ∀ b ∈ fp, ∃ o, s.heap.get? b = some o /\ ∀ v, o.data ≠ .cell v) : Inv X (pins ++ pinsAt fp s.heap) σ H s :=
  I.pins_of fun p hp => (List.mem_append.mp hp).elim (fun z => I.pin p (List.mem_append_right _ z)) fun z => by
    obtain ⟨hb, e⟩ := of_pinsAt z
    obtain ⟨f0, f1, f2, _⟩ := hf p.1 hb
    obtain ⟨o, e', d⟩ := ho p.1 hb
    rw [e] at e'; cases e'
    exact ⟨e, f0, f1, f2, d⟩
theorem Inv.unpinned {pins pl : List (Addr × Obj)} {σ : St} {H : Hp} {s : Shared} (I : Inv X (pins ++ pl) σ H s) : Inv X pins σ H s := I.pins_of fun p hp => I.pin p (List.mem_append_right _ (List.mem_append_left _ hp))
theorem ps_for {iter : Expr} {body : List Stmt} {wi : TI} {g : TG} {tb : TS} {pos : Pos} (hp : PassesOwn (model X.prog X.w) X.A X.env X.xe) (hc : X.calm = true) (hi : PI X tg iter wi) (hg : PG X tg g) (hb : PSs X body tb)
    (hs : ∀ x, foldedSetIterable iter X.env x = pure x := by intro _; rfl) : PS X (.For tg iter body [] pos) (tFor wi g tb) := by
  intro pins s σ H D I h
  refine wpAny_For (thn (hi pins s σ H _ I h) fun v s1 h1 => thn h1 fun itv s2 h2 => ?_) hs
  obtain ⟨it, fp, tn, J, H2, e, I2, T, st2, f2, W, ⟨m0, w0⟩, turn⟩ := h2
  subst e
  have stat : ∀ {H' : Hp}, (∀ b ∈ fp, H' b = none) -> ∀ b ∈ fp, FpOk X pins H' b := fun hn b hb => ⟨hn b hb, (f2 b hb).2⟩
  refine codeAny_forLoop_any (fun n s' => ∃ i σ' H', Inv X pins σ' H' s' /\ tn i s'.heap /\ (∀ b ∈ fp, H' b = none) /\ W i n σ' H') ?_ m0 ⟨0, σ, H2, I2, st2, fun b hb => (f2 b hb).1, w0⟩
  rintro n s3 ⟨i, σ3, H3, I3, st3, fr3, w3⟩
  rcases turn i n σ3 H3 w3 with ⟨stop, qn⟩ | ⟨go, N, hN, step⟩
  · refine wpAny_passesOwn hp (thn (T.done X rfl rfl rfl hc i pins s3 σ3 H3 X.xe I3 (stat fr3) st3 stop) fun r s4 ⟨hr, I4⟩ => ?_)
    subst hr
    exact wpAny_execs_nil ⟨σ3, H3, I4, qn⟩
  · refine wpAny_passesOwn hp (thn (T.item X rfl rfl rfl hc i pins s3 σ3 H3 X.xe I3 (stat fr3) st3 go) fun r s4 ⟨u, hr, h4⟩ => ?_)
    subst hr
    refine wpAny_passesOwn hp (thn h4 fun _ s5 ⟨x, H5, I5, r5, y5, st5, fr5⟩ => ?_)
    have I5' := I5.pinned (stat fr5) (T.obj _ _ st5)
    refine wpAny_passesOwn hp (thn (hg _ s5 σ3 H5 x u _ I5' r5 (step x H5 y5)) fun _ s6 ⟨σ6, H6, I6, q6⟩ => ?_)
    refine wpAny_passesOwn hp (thn (hb _ s6 σ6 H6 _ I6 q6) fun f s7 q7 => ?_)
    have again : ∀ {σ7 : St} {H7 : Hp}, Inv X (pins ++ pinsAt fp s5.heap) σ7 H7 s7 -> N σ7 H7 -> ∃ m, m < n /\ ∃ i σ' H', Inv X pins σ' H' s7 /\ tn i s7.heap /\ (∀ b ∈ fp, H' b = none) /\ W i m σ' H' := fun {σ7 H7} I7 n7 => by
      obtain ⟨m', hm, w7⟩ := hN σ7 H7 n7
      refine ⟨m', hm, i + 1, σ7, H7, I7.unpinned, T.keep _ _ _ st5 fun b hb o e => (I7.pin (b, o) (List.mem_append_right _ (List.mem_append_right _ (mem_pinsAt hb e)))).1, fun b hb => ?_, w7⟩
      obtain ⟨o, e, d⟩ := T.obj _ _ st5 b hb
      exact (I7.pin (b, o) (List.mem_append_right _ (List.mem_append_right _ (mem_pinsAt hb e)))).2.1
    cases f with
    | next => obtain ⟨σ7, H7, I7, n7⟩ := q7; exact again I7 n7
    | cont => obtain ⟨σ7, H7, I7, n7⟩ := q7; exact again I7 n7
    | brk => obtain ⟨σ7, H7, I7, q7⟩ := q7; exact ⟨σ7, H7, I7.unpinned, q7⟩
    | ret v => obtain ⟨x7, σ7, H7, I7, r7, q7⟩ := q7; exact ⟨x7, σ7, H7, I7.unpinned, r7, q7⟩
end
abbrev R2 := V -> V -> Hp -> VK -> Prop
def OpR (X : Cx) (f : Value -> Value -> Sem Value) (r : R2) : Prop :=
  ∀ (pins : List (Addr × Obj)) (s : Shared) (σ : St) (H : Hp) (x y : V) (v u : Value) (Q : VK), Inv X pins σ H s -> RelV x v -> RelV y u -> r x y H Q ->
    wpAny (model X.prog X.w) X.A (f v u) (EP X pins σ Q) X.xe s
def UnR (X : Cx) (f : Value -> Sem Value) (r : V -> Hp -> VK -> Prop) : Prop :=
  ∀ (pins : List (Addr × Obj)) (s : Shared) (σ : St) (H : Hp) (x : V) (v : Value) (Q : VK), Inv X pins σ H s -> RelV x v -> r x H Q ->
    wpAny (model X.prog X.w) X.A (f v) (EP X pins σ Q) X.xe s
def CallR (X : Cx) (f : Value) (r : List V -> Hp -> VK -> Prop) : Prop :=
  ∀ (pins : List (Addr × Obj)) (s : Shared) (σ : St) (H : Hp) (xs : List V) (us : List Value) (Q : VK), Inv X pins σ H s -> Vals xs us -> r xs H Q ->
    wpAny (model X.prog X.w) X.A (call f us) (EP X pins σ Q) X.xe s
def TruR (X : Cx) (r : V -> Hp -> (Bool -> Hp -> Prop) -> Prop) : Prop :=
  ∀ (pins : List (Addr × Obj)) (s : Shared) (σ : St) (H : Hp) (x : V) (v : Value) (Q : Bool -> Hp -> Prop), Inv X pins σ H s -> RelV x v -> r x H Q ->
    wpAny (model X.prog X.w) X.A (truthy v) (TP X pins σ Q) X.xe s
def tOp (r : R2) (ta tb : TE) : TE := fun σ H Q => ta σ H fun x H1 => tb σ H1 fun y H2 => r x y H2 Q
def tUn (r : V -> Hp -> VK -> Prop) (ta : TE) : TE := fun σ H Q => ta σ H fun x H1 => r x H1 Q
def rI (C : Int -> Int -> Prop) (g : Int -> Int -> V) : R2 := fun x y H Q => ∃ i j, x = .int i /\ y = .int j /\ C i j /\ Q (g i j) H
def rI0 (g : Int -> Int -> V) : R2 := fun x y H Q => ∃ i j, x = .int i /\ y = .int j /\ Q (g i j) H
def rU (g : Int -> V) : V -> Hp -> VK -> Prop := fun x H Q => ∃ i, x = .int i /\ Q (g i) H
section
variable {X : Cx} {a b c : Expr} {ta tb tc : TE} {pos : Pos}
theorem binT (ha : PE X a ta) (hb : PE X b tb) {pins : List (Addr × Obj)} {s : Shared} {σ : St} {H : Hp} {R : V -> V -> Hp -> Prop} (I : Inv X pins σ H s)
    (h : ta σ H fun x H1 => tb σ H1 fun y H2 => R x y H2) {Q : Value -> Shared -> Prop} {f : Value -> Value -> Sem Value}
    (hf : ∀ v u s2 x y H2, Inv X pins σ H2 s2 -> RelV x v -> RelV y u -> R x y H2 -> wpAny (model X.prog X.w) X.A (f v u) Q X.xe s2) :
    wpAny (model X.prog X.w) X.A (eval a X.env) (fun v s₁ => wpAny (model X.prog X.w) X.A (eval b X.env) (fun u s₂ => wpAny (model X.prog X.w) X.A (f v u) Q X.xe s₂) X.xe s₁) X.xe s := by
  refine thn (ha pins s σ H _ I h) fun v s1 ⟨x, H1, I1, r1, q1⟩ => ?_
  refine thn (hb pins s1 σ H1 _ I1 q1) fun u s2 ⟨y, H2, I2, r2, q2⟩ => ?_
  exact hf v u s2 x y H2 I2 r1 r2 q2
theorem pe_op {op : Operator} {r : R2} (ho : OpR X (binaryOp op) r) (ha : PE X a ta) (hb : PE X b tb) : PE X (.BinOp a op b pos) (tOp r ta tb) := by
  intro pins s σ H Q I h
  exact wpAny_BinOp (binT ha hb I h fun v u s2 x y H2 I2 rx ry q => ho pins s2 σ H2 x y v u Q I2 rx ry q)
theorem pe_un {op : UnaryOp} {r : V -> Hp -> VK -> Prop} (ho : UnR X (unaryOp op) r) (ha : PE X a ta) : PE X (.UnaryOp op a pos) (tUn r ta) := by
  intro pins s σ H Q I h
  exact UnaryOp_ (thn (ha pins s σ H _ I h) fun v s1 ⟨x, H1, I1, r1, q1⟩ => ho pins s1 σ H1 x v Q I1 r1 q1)
theorem opI {f : Value -> Value -> Sem Value} {C : Int -> Int -> Prop} {g : Int -> Int -> Int}
    (rule : ∀ (i j : Int) (t u : Tok) (s : Shared) (Q : Value -> Shared -> Prop) (E : Value -> Shared -> Prop), C i j -> Q (.int (g i j) s.toks) { s with toks := s.toks + 1 } -> wpAny (model X.prog X.w) X.A (f (.int i t) (.int j u)) Q E s) :
    OpR X f (rI C fun i j => .int (g i j)) := by
  intro pins s σ H x y v u Q I rx ry h
  obtain ⟨i, j, rfl, rfl, hc, q⟩ := h
  obtain ⟨t, rfl⟩ := rx
  obtain ⟨t', rfl⟩ := ry
  exact rule i j t t' s _ _ hc ⟨.int (g i j), H, I.tok _, ⟨_, rfl⟩, q⟩
theorem opI0 {f : Value -> Value -> Sem Value} {g : Int -> Int -> Int}
    (rule : ∀ (i j : Int) (t u : Tok) (s : Shared) (Q : Value -> Shared -> Prop) (E : Value -> Shared -> Prop), Q (.int (g i j) s.toks) { s with toks := s.toks + 1 } -> wpAny (model X.prog X.w) X.A (f (.int i t) (.int j u)) Q E s) :
    OpR X f (rI0 fun i j => .int (g i j)) := by
  intro pins s σ H x y v u Q I rx ry h
  obtain ⟨i, j, rfl, rfl, q⟩ := h
  obtain ⟨t, rfl⟩ := rx
  obtain ⟨t', rfl⟩ := ry
  exact rule i j t t' s _ _ ⟨.int (g i j), H, I.tok _, ⟨_, rfl⟩, q⟩
theorem opB0 {f : Value -> Value -> Sem Value} {g : Int -> Int -> Bool}
    (rule : ∀ (i j : Int) (t u : Tok) (s : Shared) (Q : Value -> Shared -> Prop) (E : Value -> Shared -> Prop), Q (.bool (g i j)) s -> wpAny (model X.prog X.w) X.A (f (.int i t) (.int j u)) Q E s) :
    OpR X f (rI0 fun i j => .bl (g i j)) := by
  intro pins s σ H x y v u Q I rx ry h
  obtain ⟨i, j, rfl, rfl, q⟩ := h
  obtain ⟨t, rfl⟩ := rx
  obtain ⟨t', rfl⟩ := ry
  exact rule i j t t' s _ _ ⟨.bl (g i j), H, I, rfl, q⟩
def CDiv (i j : Int) : Prop := 0 < j /\ j < 1073741824
def CPow (i j : Int) : Prop := 0 <= j /\ j <= 1000000 /\ i.natAbs < 2 ^ 64
def CMul (i j : Int) : Prop := (-(2 ^ 64) < i /\ i < 2 ^ 64) ∨ (-(2 ^ 64) < j /\ j < 2 ^ 64)
theorem CMul.ok {i j : Int} (h : CMul i j) : IntMulOk i j := by
  rcases h with ⟨h1, h2⟩ | ⟨h1, h2⟩
  · exact .of_left (intBits_le_64 h1 h2)
  · exact .of_right (intBits_le_64 h1 h2)
theorem two_pow_nn (k : Nat) : (0 : Int) <= 2 ^ k := by
  rw [two_pow_cast]
  exact Int.natCast_nonneg _
theorem op_add : OpR X (binaryOp .Add) (rI0 fun i j => .int (i + j)) := opI0 fun _ _ _ _ _ _ _ q => add_int q
theorem op_sub : OpR X (binaryOp .Sub) (rI0 fun i j => .int (i - j)) := opI0 fun _ _ _ _ _ _ _ q => sub_int q
theorem op_mul : OpR X (binaryOp .Mult) (rI CMul fun i j => .int (i * j)) := opI fun _ _ _ _ _ _ _ hc q => mul_int q hc.ok
theorem op_fdiv : OpR X (binaryOp .FloorDiv) (rI CDiv fun i j => .int (i / j)) := opI fun i j _ _ _ _ _ hc q => by
  have h1 : (0 : Int) < j := hc.1
  have h2 : j < 1073741824 := hc.2
  exact floordiv_int (by omega) (by rw [Int.fdiv_eq_ediv_of_nonneg i (by omega)]; exact q) (.inl (PyProof.noPylong_small (by omega)))
theorem op_mod : OpR X (binaryOp .Mod) (rI (fun _ j => 0 < j) fun i j => .int (i % j)) := opI fun i j _ _ _ _ _ hc q => by
  have h1 : (0 : Int) < j := hc
  exact mod_int' (by omega) (by rw [Int.fmod_eq_emod_of_nonneg i (by omega)]; exact q)
theorem op_pow : OpR X (binaryOp .Pow) (rI CPow fun i j => .int (i ^ j.toNat)) := opI fun _ _ _ _ _ _ _ hc q => pow_int_small hc.1 hc.2.1 hc.2.2 q
theorem op_shr : OpR X (binaryOp .RShift) (rI (fun _ j => 0 <= j) fun i j => .int (i / 2 ^ j.toNat)) := opI fun i j _ _ _ _ _ hc q =>
  rshift_int hc (by rw [Int.fdiv_eq_ediv_of_nonneg i (two_pow_nn _)]; exact q)
theorem op_and : OpR X (binaryOp .BitAnd) (rI0 fun i j => .int (Builtin.bitAnd i j)) := opI0 fun _ _ _ _ _ _ _ q => and_int q
theorem unI {f : Value -> Sem Value} {g : Int -> Int}
    (rule : ∀ (i : Int) (t : Tok) (s : Shared) (Q : Value -> Shared -> Prop) (E : Value -> Shared -> Prop), Q (.int (g i) s.toks) { s with toks := s.toks + 1 } -> wpAny (model X.prog X.w) X.A (f (.int i t)) Q E s) :
    UnR X f (rU fun i => .int (g i)) := by
  intro pins s σ H x v Q I rx h
  obtain ⟨i, rfl, q⟩ := h
  obtain ⟨t, rfl⟩ := rx
  exact rule i t s _ _ ⟨.int (g i), H, I.tok _, ⟨_, rfl⟩, q⟩
theorem un_neg : UnR X (unaryOp .USub) (rU fun i => .int (-i)) := unI fun _ _ _ _ _ q => neg_int q
end
def scal : V -> V -> Bool
  | .non, .non => true | .non, .int _ => true | .int _, .non => true | .non, .bl _ => true | .bl _, .non => true | .non, .str _ => true | .str _, .non => true
  | .int _, .int _ => true | .bl _, .bl _ => true | .str _, .str _ => true | .byt _, .byt _ => true
  | .int _, .str _ => true | .str _, .int _ => true | .bl _, .str _ => true | .str _, .bl _ => true
  | _, _ => false
section
variable {X : Cx} {a b c : Expr} {ta tb tc : TE} {pos : Pos}
theorem fin_bl {pins : List (Addr × Obj)} {σ : St} {H : Hp} {s : Shared} {Q : VK} {k k' : Bool} (I : Inv X pins σ H s) (q : Q (.bl k) H) (e : k = k') : EP X pins σ Q (.bool k') s := by
  subst e
  exact ⟨.bl k, H, I, rfl, q⟩
theorem op_lt : OpR X (compareOp .Lt) (rI0 fun i j => .bl (decide (i < j))) := opB0 fun _ _ _ _ _ _ _ q => lt_int q
theorem op_le : OpR X (compareOp .LtE) (rI0 fun i j => .bl (decide (i <= j))) := opB0 fun _ _ _ _ _ _ _ q => le_int q
theorem op_gt : OpR X (compareOp .Gt) (rI0 fun i j => .bl (decide (j < i))) := opB0 fun _ _ _ _ _ _ _ q => gt_int q
theorem op_in_str : OpR X (compareOp .In) (fun x y H Q => ∃ i j, x = .str i /\ y = .str j /\ Q (.bl (!(Builtin.Str.occurrences j i 0 j.length 1).isEmpty)) H) := by
  intro pins s σ H x y v u Q I rx ry h
  obtain ⟨i, j, rfl, rfl, q⟩ := h
  obtain ⟨t, rfl⟩ := rx
  obtain ⟨t', rfl⟩ := ry
  exact in_str (fin_bl I q rfl)
theorem OpR.or {f : Value -> Value -> Sem Value} {r r' : R2} (h : OpR X f r) (h' : OpR X f r') : OpR X f (fun x y H Q => r x y H Q ∨ r' x y H Q) := by
  intro pins s σ H x y v u Q I rx ry q
  rcases q with q | q
  · exact h pins s σ H x y v u Q I rx ry q
  · exact h' pins s σ H x y v u Q I rx ry q
theorem nomark (b : Expr) {op : CmpOp} (h : op ≠ .In := by decide) (h2 : op ≠ .NotIn := by decide) : behindInMarks op b = false := by
  have e1 : (op == CmpOp.In) = false := by cases op <;> first | rfl | exact absurd rfl h
  have e2 : (op == CmpOp.NotIn) = false := by cases op <;> first | rfl | exact absurd rfl h2
  cases b <;> simp [behindInMarks, e1, e2]
theorem pe_cmpR {op : CmpOp} {r : R2} (ho : OpR X (compareOp op) r) (ha : PE X a ta) (hb : PE X b tb) (hm : behindInMarks op b = false) : PE X (.Compare a [op] [b] pos) (tOp r ta tb) := by
  intro pins s σ H Q I h
  exact wpAny_Compare1 (binT ha hb I h fun v u s2 x y H2 I2 rx ry q => ho pins s2 σ H2 x y v u Q I2 rx ry q) hm
def tTest (t : TE) : TT := fun σ H Q => t σ H fun x H' => ∃ k, x = .bl k /\ Q k H'
theorem pt_cmpR {op : CmpOp} {r : R2} (ho : OpR X (compareOp op) r) (ha : PE X a ta) (hb : PE X b tb) (hm : behindInMarks op b = false) : PT X (.Compare a [op] [b] pos) (tTest (tOp r ta tb)) := by
  intro pins s σ H Q I h
  refine wpAny_isTrue_Compare1 (thn (ha pins s σ H _ I h) fun v s1 ⟨x, H1, I1, r1, q1⟩ => thn (hb pins s1 σ H1 _ I1 q1) fun u s2 ⟨y, H2, I2, r2, q2⟩ =>
    thn (ho pins s2 σ H2 x y v u _ I2 r1 r2 q2) fun c s3 ⟨z, H3, I3, r3, k, e, q3⟩ => ?_) hm
  subst e
  cases r3
  exact wpAny_truthy_bool ⟨H3, I3, q3⟩
def tChain (r r' : R2) (ta tb tc : TE) : TE := fun σ H Q => ta σ H fun x H1 => tb σ H1 fun y H2 => r x y H2 fun z H3 => ∃ k, z = .bl k /\
  (if k = true then tc σ H3 fun w' H4 => r' y w' H4 Q else Q (.bl false) H3)
theorem pe_chain {op op' : CmpOp} {r r' : R2} (ho : OpR X (compareOp op) r) (ho' : OpR X (compareOp op') r') (ha : PE X a ta) (hb : PE X b tb) (hc : PE X c tc)
    (hm : lastMarks [op, op'] [b, c] = false := by with_unfolding_all rfl) : PE X (.Compare a [op, op'] [b, c] pos) (tChain r r' ta tb tc) := by
  intro pins s σ H Q I h
  refine Compare_chain (thn (ha pins s σ H _ I h) fun v s1 ⟨x, H1, I1, r1, q1⟩ => chain_link (thn (hb pins s1 σ H1 _ I1 q1) fun u s2 ⟨y, H2, I2, r2, q2⟩ =>
    thn (ho pins s2 σ H2 x y v u _ I2 r1 r2 q2) fun d s3 ⟨z, H3, I3, r3, k, e, q3⟩ => ?_)) hm
  subst e
  cases r3
  refine wpAny_truthy_bool ?_
  cases k with
  | false => exact ite_ff ⟨.bl false, H3, I3, rfl, q3⟩
  | true => exact ite_tt (chain_last (thn (hc pins s3 σ H3 _ I3 q3) fun w' s4 ⟨z', H4, I4, r4, q4⟩ => ho' pins s4 σ H4 y z' u w' Q I4 r2 r4 q4))
theorem pt_chain {op op' : CmpOp} {r r' : R2} (ho : OpR X (compareOp op) r) (ho' : OpR X (compareOp op') r') (ha : PE X a ta) (hb : PE X b tb) (hc : PE X c tc)
    (hm : lastMarks [op, op'] [b, c] = false := by with_unfolding_all rfl) : PT X (.Compare a [op, op'] [b, c] pos) (tTest (tChain r r' ta tb tc)) := by
  intro pins s σ H Q I h
  refine isTrue_chain (thn (ha pins s σ H _ I h) fun v s1 ⟨x, H1, I1, r1, q1⟩ => test_link (thn (hb pins s1 σ H1 _ I1 q1) fun u s2 ⟨y, H2, I2, r2, q2⟩ =>
    thn (ho pins s2 σ H2 x y v u _ I2 r1 r2 q2) fun d s3 ⟨z, H3, I3, r3, k, e, q3⟩ => ?_)) hm
  subst e
  cases r3
  refine wpAny_truthy_bool ?_
  cases k with
  | false =>
    obtain ⟨k', e', q'⟩ := q3
    cases e'
    exact ite_ff ⟨H3, I3, q'⟩
  | true =>
    refine ite_tt (test_last (thn (hc pins s3 σ H3 _ I3 q3) fun w' s4 ⟨z', H4, I4, r4, q4⟩ => thn (ho' pins s4 σ H4 y z' u w' _ I4 r2 r4 q4) fun d' s5 ⟨z2, H5, I5, r5, k2, e2, q5⟩ => ?_))
    subst e2
    cases r5
    exact wpAny_truthy_bool ⟨H5, I5, q5⟩
def TruV (K : PySem.W.Frag) (x : V) (H : Hp) (k : Bool) : Prop :=
  match x with
  | .non => k = false
  | .bl b => k = b
  | .int i => k = (i != 0)
  | .str y => y.length <= sizeLine /\ k = ((y.length : Int) != 0)
  | .byt y => y.size <= sizeLine /\ k = ((y.size : Int) != 0)
  | .ref p => (∃ xs, SqL K H p xs /\ k = !xs.isEmpty) ∨ (∃ xs, SqT K H p xs /\ k = !xs.isEmpty) ∨ ∃ kvs, H p = some (.dK kvs) /\ k = !kvs.isEmpty
  | _ => False
theorem isEmpty_kv {κ : Type} {kvs : List (κ × V)} {vs : List (κ × Value)} (r : KV kvs vs) : (!vs.isEmpty) = !kvs.isEmpty := by
  cases r <;> rfl
theorem isEmpty_of {xs : List V} {its : List Value} (r : Vals xs its) : (!its.toArray.isEmpty) = !xs.isEmpty := by
  cases r <;> simp
theorem line63 : (sizeLine : Nat) < 2 ^ 63 := by rw [sizeLine_eq]; decide
theorem tru_ok : TruR X (fun x H Q => ∃ k, TruV X.K x H k /\ Q k H) := by
  intro pins s σ H x v Q I rx h
  obtain ⟨k, e, q⟩ := h
  have hl := line63
  have hs : sizeLine = 16777216 := sizeLine_eq
  cases x with
  | non =>
    cases rx
    have e' : k = false := e
    subst e'
    exact truthy_none ⟨H, I, q⟩
  | bl b =>
    cases rx
    have e' : k = b := e
    subst e'
    exact wpAny_truthy_bool ⟨H, I, q⟩
  | int i =>
    obtain ⟨t, rfl⟩ := rx
    have e' : k = (i != 0) := e
    subst e'
    exact PySem.P.truthy_int ⟨H, I, q⟩
  | str y =>
    obtain ⟨t, rfl⟩ := rx
    obtain ⟨hy, e'⟩ : y.length <= sizeLine /\ k = ((y.length : Int) != 0) := e
    subst e'
    exact PySem.P.truthy_str (by omega) ⟨H, I.tok _, q⟩
  | byt y =>
    obtain ⟨t, rfl⟩ := rx
    obtain ⟨hy, e'⟩ : y.size <= sizeLine /\ k = ((y.size : Int) != 0) := e
    subst e'
    exact PySem.W.truthy_bytes (by omega) ⟨H, I.tok _, q⟩
  | ref p =>
    cases rx
    have e' : (∃ xs, SqL X.K H p xs /\ k = !xs.isEmpty) ∨ (∃ xs, SqT X.K H p xs /\ k = !xs.isEmpty) ∨ ∃ kvs, H p = some (.dK kvs) /\ k = !kvs.isEmpty := e
    rcases e' with ⟨xs, hx, e'⟩ | ⟨xs, hx, e'⟩ | ⟨kvs, hx, e'⟩
    · subst e'
      obtain ⟨its, r, pl, hz⟩ := I.list hx
      have hlen := r.length
      exact wpAny_truthy_list pl.isList (by simp only [List.size_toArray]; omega) ⟨H, I.tok _, by rw [isEmpty_of r]; exact q⟩
    · subst e'
      obtain ⟨its, r, pl, hz⟩ := I.tuple hx
      have hlen := r.length
      exact truthy_tuple pl (by simp only [List.size_toArray]; omega) ⟨H, I.tok _, by rw [isEmpty_of r]; exact q⟩
    · subst e'
      obtain ⟨hz, hS, vs, r, m⟩ : kvs.length <= sizeLine /\ (p == sysModules) = false /\ ∃ vs, KV kvs vs /\ s.heap.DictOf (mixKind X.prog X.w) p vs := I.hok p _ hx
      have hlen : kvs.length = vs.length := Paired.length r
      exact wpAny_truthy_dict hS m (by omega) ⟨H, I.tok _, by rw [isEmpty_kv r]; exact q⟩
  | _ => exact (show False from e).elim
theorem pt_truth (ha : PE X a ta) (he : ∀ whole, isTrue a X.env whole = (do let v <- whole; standAt a.pos; holding [v] (truthy v))) :
    PT X a (fun σ H Q => ta σ H fun x H' => ∃ k, TruV X.K x H' k /\ Q k H') := by
  intro pins s σ H Q I h
  exact isTrue_plain (thn (ha pins s σ H _ I h) fun v s1 ⟨x, H1, I1, r1, q1⟩ => tru_ok pins s1 σ H1 x v Q I1 r1 q1) (he _)
theorem op_add_str : OpR X (binaryOp .Add) (fun x y H Q => ∃ i j, x = .str i /\ y = .str j /\ i.length + j.length <= sizeLine /\ Q (.str (i ++ j)) H) := by
  intro pins s σ H x y v u Q I rx ry h
  obtain ⟨i, j, rfl, rfl, hz, q⟩ := h
  obtain ⟨t, rfl⟩ := rx
  obtain ⟨t', rfl⟩ := ry
  exact add_str (fun t' tk => ⟨.str (i ++ j), H, I.tok _, ⟨_, rfl⟩, q⟩) hz
theorem vals1 {x : V} {us : List Value} (r : Vals [x] us) : ∃ u, us = [u] /\ RelV x u := by
  cases r with
  | cons r1 r2 => cases r2; exact ⟨_, rfl, r1⟩
theorem vals2 {x y : V} {us : List Value} (r : Vals [x, y] us) : ∃ u w', us = [u, w'] /\ RelV x u /\ RelV y w' := by
  cases r with
  | cons r1 r2 =>
    cases r2 with
    | cons r3 r4 => cases r4; exact ⟨_, _, rfl, r1, r3⟩
theorem call_min2 (hc : X.calm = true) : CallR X (.builtin "min") (fun xs H Q => ∃ i j, xs = [.int i, .int j] /\ Q (.int (if j < i then j else i)) H) := by
  intro pins s σ H xs us Q I r h
  obtain ⟨i, j, rfl, q⟩ := h
  obtain ⟨u, w', rfl, ⟨t, rfl⟩, ⟨t', rfl⟩⟩ := vals2 r
  refine min_two_ints (I.ok.hd hc) fun h' tk k => ⟨_, H, I.kept k, ?_, q⟩
  by_cases hj : j < i
  · rw [if_pos hj, if_pos hj]; exact ⟨_, rfl⟩
  · rw [if_neg hj, if_neg hj]; exact ⟨_, rfl⟩
theorem call_int1 : CallR X (.type "int") (fun xs H Q => (∃ i, xs = [.int i] /\ Q (.int i) H) ∨ ∃ k, xs = [.bl k] /\ Q (.int (if k then 1 else 0)) H) := by
  intro pins s σ H xs us Q I r h
  rcases h with ⟨i, rfl, q⟩ | ⟨k, rfl, q⟩
  · obtain ⟨u, rfl, t, rfl⟩ := vals1 r
    exact call_int_int ⟨.int i, H, I, ⟨_, rfl⟩, q⟩
  · obtain ⟨u, rfl, r1⟩ := vals1 r
    cases r1
    exact call_int_bool ⟨.int (if k then 1 else 0), H, I.tok _, ⟨_, rfl⟩, q⟩
def LenV (K : PySem.W.Frag) (x : V) (H : Hp) (n : Nat) : Prop :=
  match x with
  | .str y => y.length <= sizeLine /\ n = y.length
  | .byt y => y.size <= sizeLine /\ n = y.size
  | .ref p => (∃ xs, SqL K H p xs /\ n = xs.length) ∨ ∃ xs, SqT K H p xs /\ n = xs.length
  | _ => False
theorem call_len : CallR X (.builtin "len") (fun xs H Q => ∃ x n, xs = [x] /\ LenV X.K x H n /\ Q (.int n) H) := by
  intro pins s σ H xs us Q I r h
  obtain ⟨x, n, rfl, e, q⟩ := h
  obtain ⟨u, rfl, rx⟩ := vals1 r
  have hl := line63
  have hs : sizeLine = 16777216 := sizeLine_eq
  cases x with
  | str y =>
    obtain ⟨t, rfl⟩ := rx
    obtain ⟨hy, e'⟩ : y.length <= sizeLine /\ n = y.length := e
    subst e'
    exact len_str (by omega) ⟨.int _, H, I.tok _, ⟨_, rfl⟩, q⟩
  | byt y =>
    obtain ⟨t, rfl⟩ := rx
    obtain ⟨hy, e'⟩ : y.size <= sizeLine /\ n = y.size := e
    subst e'
    exact PySem.W.len_bytes (by omega) ⟨.int _, H, I.tok _, ⟨_, rfl⟩, q⟩
  | ref p =>
    cases rx
    have e' : (∃ xs, SqL X.K H p xs /\ n = xs.length) ∨ ∃ xs, SqT X.K H p xs /\ n = xs.length := e
    rcases e' with ⟨xs, hx, e'⟩ | ⟨xs, hx, e'⟩
    · subst e'
      obtain ⟨its, r', pl, hz⟩ := I.list hx
      have hlen := r'.length
      exact Calls.call_len_list pl.isList (by simp only [List.size_toArray]; omega) ⟨.int xs.length, H, I.tok _, ⟨_, by simp only [List.size_toArray]; rw [hlen]⟩, q⟩
    · subst e'
      obtain ⟨its, r', pl, hz⟩ := I.tuple hx
      have hlen := r'.length
      exact len_tuple pl (by simp only [List.size_toArray]; omega) ⟨.int xs.length, H, I.tok _, ⟨_, by simp only [List.size_toArray]; rw [hlen]⟩, q⟩
  | _ => exact (show False from e).elim
end
structure ObjM (h : Heap) (x dx C : Addr) (mA : Str -> Option Value) : Prop where
  obj : h.get? x = some (PySem.W.instObj C dx)
  ns : h.Ns1 dx mA
  ne : dx ≠ x
theorem lookIn_ns {h : Heap} {dx : Addr} {mA : Str -> Option Value} (n : h.Ns1 dx mA) : ∃ od, h.get? dx = some od /\ ∀ name, PySem.W.lookIn name od = some (mA name) := by
  obtain ⟨o, es, ep, ho, hd, hk, _, hm⟩ := n
  refine ⟨o, ho, fun name => ?_⟩
  have e := hm name
  unfold nsFind findBy at e
  rw [<- Array.find?_toList] at e
  unfold PySem.W.lookIn
  rw [hd]
  dsimp only
  split
  · rename_i y q
    rw [q] at e
    exact congrArg some e
  · rename_i q
    rw [q] at e
    have a : es.toList.any (·.refKey) = false := by
      rw [List.any_eq_false]
      intro y hy
      obtain ⟨z, t, hkey⟩ := hk y (Array.mem_toList_iff.mp hy)
      simp [DictEntry.refKey, hkey]
    have a' : ¬ es.toList.any (·.refKey) = true := by rw [a]; exact Bool.false_ne_true
    rw [if_neg a']
    exact congrArg some e
theorem ObjM.look {h : Heap} {x dx C : Addr} {mA : Str -> Option Value} (I : ObjM h x dx C mA) : ∃ od, PySem.W.InstAt h x (PySem.W.instObj C dx) C (some od) /\ ∀ name, PySem.W.lookIn name od = some (mA name) :=
  let ⟨od, ho, hl⟩ := lookIn_ns I.ns
  ⟨od, ⟨I.obj, rfl, rfl, ho⟩, hl⟩
section
variable {prog : Program} {w : World} {A : Around} {E : Value -> Shared -> Prop} {s : Shared} {K : PySem.W.Frag} {x dx C f : Addr} {mA : Str -> Option Value} {name : Str} {v : Value}
end
theorem RelO.some_of {v : V} {o : Option Value} (r : RelO (some v) o) : ∃ u, o = some u /\ RelV v u := by
  cases o with
  | none => exact (show False from r).elim
  | some u => exact ⟨u, rfl, r⟩
theorem handed_of {v : V} {u : Value} (r : RelV v u) : PySem.W.handedIn u = true := by
  cases v with
  | non => cases (show u = Value.none from r); rfl
  | bl b => cases (show u = Value.bool b from r); rfl
  | int i => obtain ⟨t, e⟩ := (show ∃ t, u = Value.int i t from r); cases e; rfl
  | str x => obtain ⟨t, e⟩ := (show ∃ t, u = Value.str x t from r); cases e; rfl
  | byt b => obtain ⟨t, e⟩ := (show ∃ t, u = Value.bytes b t from r); cases e; rfl
  | flt b => obtain ⟨t, e⟩ := (show ∃ t, u = Value.float b t from r); cases e; rfl
  | ref a => cases (show u = Value.ref a from r); rfl
  | ty n => cases (show u = Value.type n from r); rfl
section
variable {P : Program} {w : World} {H H' : Hp} {h h' : Heap} {a C dx : Addr} {fs fs' : List (Str × V)}
theorem ins_get (hok : HOk P w H h) (e : H a = some (.ins C dx fs)) : ∃ mA, ObjM h a dx C mA /\ (∀ f, RelO (fs.lookup f) (mA f)) /\ PySem.Within mA (fs.map (·.1)) /\ fs.length <= 1000 /\ H dx = some (.own a) := by
  obtain ⟨d, z, ne, ob, mA, n, r, q⟩ := (show ObjOk P w H h a (.ins C dx fs) from hok a _ e)
  exact ⟨mA, ⟨ob, n, ne⟩, r, q, z, d⟩
end
structure Cls (K : PySem.W.Frag) (C : Addr) : Prop where
  pg : PySem.W.plainGet K C Str.empty = true
  hd : PySem.W.hasDictIn K C = true
  po : PySem.W.plainOver K C = true
  sa : PySem.W.findIn K (.ref C) "__setattr__" = some (some (.builtin "object.__setattr__"))
theorem Cls.get {K : PySem.W.Frag} {C : Addr} (c : Cls K C) (f : Str) : PySem.W.plainGet K C f = true := c.pg
structure Con (K : PySem.W.Frag) (C : Addr) (f : Str) (v : V) (u : Value) : Prop where
  at_ : PySem.W.findIn K (.ref C) f = some (some u)
  rel : RelV v u
  get : PySem.W.specialIn K u "__get__" = some none
  cp : PySem.W.copiedNames.contains f = false
structure Meth (K : PySem.W.Frag) (C : Addr) (m : Str) (f : Addr) : Prop where
  at_ : PySem.W.findIn K (.ref C) m = some (some (.ref f))
  fn : PySem.W.isFn K (.ref f) = true
  kp : PySem.W.keepIn K (.ref f) = true
section
variable {X : Cx} {pins : List (Addr × Obj)} {σ : St} {H : Hp} {s : Shared} {a C dx : Addr} {fs : List (Str × V)} {f : Str} {v : V} {A : Around} {E : Value -> Shared -> Prop}
theorem attr_of {prog : Program} {w : World} {env : Env} {e : Expr} {f : Str} {pos : Pos} {s : Shared} {Q : Value -> Shared -> Prop} (hb : attributeBase e f env (eval e env) = eval e env)
    (h : wpAny (model prog w) A (eval e env) (fun o s₁ => wpAny (model prog w) A (getAttr o f true) Q E s₁) E s) : wpAny (model prog w) A (eval (.Attribute e f pos) env) Q E s :=
  Attribute_any_ h (by rw [arm_eval_Attribute, hb])
end
section
variable {X : Cx} {o e value : Expr} {f : Str} {pos pos' tpos : Pos} {ta tv : TE}
end
section
variable {X : Cx} {pins : List (Addr × Obj)} {σ : St} {H : Hp} {s : Shared} {A : Around} {E : Value -> Shared -> Prop} {Q : Value -> Shared -> Prop} {c : Value} {b : Bool}
inductive TyOf (K : PySem.W.Frag) (H : Hp) : V -> Value -> Prop where
  | non : TyOf K H .non (.type "NoneType")
  | bl (x : Bool) : TyOf K H (.bl x) (.type "bool")
  | int (i : Int) : TyOf K H (.int i) (.type "int")
  | str (x : Str) : TyOf K H (.str x) (.type "str")
  | flt (x : UInt64) : TyOf K H (.flt x) (.type "float")
  | lst {a : Addr} {xs : List V} (e : H a = some (.lst xs)) : TyOf K H (.ref a) (.type "list")
  | frz {a : Addr} {o : Obj} {xs : List V} (e : H a = some (.frz o (.lst xs))) : TyOf K H (.ref a) (.type "list")
  | tup {a : Addr} {xs : List V} (e : H a = some (.tup xs)) : TyOf K H (.ref a) (.type "tuple")
  | dK {a : Addr} {kvs : List (Key × V)} (e : H a = some (.dK kvs)) : TyOf K H (.ref a) (.type "dict")
  | dT {a : Addr} {kvs : List (List Key × V)} (e : H a = some (.dT kvs)) : TyOf K H (.ref a) (.type "dict")
  | ins {a C dx : Addr} {fs : List (Str × V)} (e : H a = some (.ins C dx fs)) (cl : Cls K C) (ha : PySem.W.findIn K (.ref C) "__class__" = some (some (.builtin "object.__class__")))
      (hn : PySem.W.specialIn K (.builtin "object.__class__") "__get__" = some (some (.builtin "getset_descriptor.__get__"))) (htk : PySem.W.takesIn K (.builtin "object.__class__") = some true)
      (hm : PySem.W.mroIn K C (.type "object") = some true) : TyOf K H (.ref a) (.ref C)
theorem isinst_ok {x : V} {u t : Value} (I : Inv X pins σ H s) (rx : RelV x u) (ty : TyOf X.K H x t) (e : PySem.W.kitOne X.K t c = some b) (h : ∀ tk, Q (.bool b) { s with toks := tk }) :
    wpAny (model X.prog X.w) A (call (.builtin "isinstance") [u, c]) Q E s := by
  cases ty with
  | non => cases (show u = Value.none from rx); exact PySem.W.kia_one PySem.W.kitx_none I.kIn True.intro e (fun z => nomatch z) h
  | bl y => cases (show u = Value.bool y from rx); exact PySem.W.kia_one PySem.W.kitx_bool I.kIn True.intro e (fun z => nomatch z) h
  | int i => obtain ⟨t, q⟩ := (show ∃ t, u = Value.int i t from rx); cases q; exact PySem.W.kia_one PySem.W.kitx_int I.kIn True.intro e (fun z => nomatch z) h
  | str y => obtain ⟨t, q⟩ := (show ∃ t, u = Value.str y t from rx); cases q; exact PySem.W.kia_one PySem.W.kitx_str I.kIn True.intro e (fun z => nomatch z) h
  | flt y => obtain ⟨t, q⟩ := (show ∃ t, u = Value.float y t from rx); cases q; exact PySem.W.kia_one PySem.W.kitx_float I.kIn True.intro e (fun z => nomatch z) h
  | @lst a xs ea =>
    cases (show u = Value.ref a from rx)
    obtain ⟨_, _, n, _, h1⟩ := (show ObjOk X.prog X.w H s.heap a (.lst xs) from I.hok a _ ea)
    exact PySem.W.kia_one PySem.W.kitx_list I.kIn ⟨_, h1, rfl⟩ e (fun z => nomatch z) h
  | @frz a ob xs ea =>
    cases (show u = Value.ref a from rx)
    obtain ⟨_, _, _, n, _, h1⟩ := (show ObjOk X.prog X.w H s.heap a (.frz ob (.lst xs)) from I.hok a _ ea)
    exact PySem.W.kia_one PySem.W.kitx_list I.kIn ⟨_, h1, rfl⟩ e (fun z => nomatch z) h
  | @tup a xs ea =>
    cases (show u = Value.ref a from rx)
    obtain ⟨_, _, _, p⟩ := (show ObjOk X.prog X.w H s.heap a (.tup xs) from I.hok a _ ea)
    obtain ⟨o, h1, h2, _⟩ := p
    exact PySem.W.kia_one PySem.W.kitx_tuple I.kIn ⟨o, h1, h2⟩ e (fun z => nomatch z) h
  | @dK a kvs ea =>
    cases (show u = Value.ref a from rx)
    obtain ⟨_, _, vs, _, p⟩ := (show ObjOk X.prog X.w H s.heap a (.dK kvs) from I.hok a _ ea)
    obtain ⟨o, es, ep, h1, h2, _⟩ := p
    exact PySem.W.kia_one PySem.W.kitx_dict I.kIn ⟨o, h1, h2.1⟩ e (fun z => nomatch z) h
  | @dT a kvs ea =>
    cases (show u = Value.ref a from rx)
    obtain ⟨_, _, xs, _, o, es, ep, h1, h2, _⟩ := (show ObjOk X.prog X.w H s.heap a (.dT kvs) from I.hok a _ ea)
    exact PySem.W.kia_one PySem.W.kitx_dict I.kIn ⟨o, h1, h2.1⟩ e (fun z => nomatch z) h
  | @ins a C dx fs ea cl ha hn htk hm =>
    cases (show u = Value.ref a from rx)
    obtain ⟨mA, O, _⟩ := ins_get I.hok ea
    obtain ⟨od, J, _⟩ := O.look
    exact PySem.W.kia_one (PySem.W.kitx_own (cl.get _) cl.hd ha hn htk hm) I.kIn J e (fun z => nomatch z) h
end
structure Room (k : Nat) (A : Around) : Prop where
  hd : A.handled = none
  dp : A.depth + 3 * k + 5 < recursionLimit
  un : A.units + 16 * k + 200 < cLine
theorem Room.mono {j k : Nat} {A : Around} (r : Room k A) (h : j <= k) : Room j A := ⟨r.hd, by have := r.dp; omega, by have := r.un; omega⟩
theorem Room.deeper {k : Nat} {A : Around} (r : Room (k + 1) A) (env : Env) : Room k (A.deeper env) :=
  ⟨r.hd, by have := r.dp; show A.depth + 1 + 3 * k + 5 < _; omega, by have := r.un; show A.units + 3 + 16 * k + 200 < _; omega⟩
theorem make_depth {A : Around} {C : Addr} {us : List Value} {kw : List (Str × Value)} : (A.under (.builtin "type.__call__" ⟨.ref C :: us, kw⟩)).depth = A.depth + 1 := by
  first | rfl | simp [Around.under, Code.weight, Code.isCreation, Code.isGuard, Code.isCaller, Code.frames, Code.isFrame, guardIds]
theorem make_units {A : Around} {C : Addr} {us : List Value} {kw : List (Str × Value)} : (A.under (.builtin "type.__call__" ⟨.ref C :: us, kw⟩)).units = A.units + 1 := by
  first | rfl | simp [Around.under, Code.cUnits, Code.frames, Code.isFrame]
theorem Room.make {k : Nat} {A : Around} (r : Room (k + 1) A) (C : Addr) (us : List Value) (kw : List (Str × Value)) : Room k (A.under (.builtin "type.__call__" ⟨.ref C :: us, kw⟩)) :=
  ⟨r.hd, by have := r.dp; rw [make_depth]; omega, by have := r.un; rw [make_units]; omega⟩
theorem Room.depth {k : Nat} {A : Around} (r : Room k A) : A.depth < recursionLimit := by have := r.dp; omega
theorem Room.units {k : Nat} {A : Around} (r : Room k A) : A.units + 64 < cLine := by have := r.un; omega
def tNil : TA := fun _ H Q => Q [] H
def tCons (ta : TE) (tr : TA) : TA := fun σ H Q => ta σ H fun x H1 => tr σ H1 fun xs H2 => Q (x :: xs) H2
section
variable {X : Cx} {e : Expr} {es : List Expr} {te : TE} {t : TA} {pos : Pos}
theorem pa_nil : PA X [] tNil := fun _ _ _ _ H Q I h => Calls.spliced_nil ⟨[], H, I, .nil, h⟩
theorem pa_cons (ha : PE X e te) (hr : PA X es t) (hs : starEach (e :: es) X.env = (false, eval e X.env) :: starEach es X.env := by rfl) : PA X (e :: es) (tCons te t) := by
  intro pos pins s σ H Q I h
  rw [hs]
  show wpAny _ _ (spliced ((false, eval e X.env) :: backTo pos (starEach es X.env))) _ _ s
  refine Calls.spliced_cons (thn (ha pins s σ H _ I h) fun u s1 ⟨x, H1, I1, r1, q1⟩ => ?_)
  exact thn (hr pos pins s1 σ H1 _ I1 q1) fun us s2 ⟨xs, H2, I2, r2, q2⟩ => ⟨x :: xs, H2, I2, .cons r1 r2, q2⟩
def tTup (t : TA) : TE := fun σ H Q => t σ H fun xs H1 => xs.length <= sizeLine /\ ∀ p, H1 p = none -> Q (.ref p) (upd H1 p (.tup xs))
def tLst (t : TA) : TE := fun σ H Q => t σ H fun xs H1 => xs.length <= sizeLine /\ ∀ p, H1 p = none -> Q (.ref p) (upd H1 p (.lst xs))
theorem pe_tup {x1} (h : PA X es t) : PE X (.Tuple es x1 pos) (tTup t) := by
  intro pins s σ H Q I hq
  refine wpAny_Tuple_spliced (thn (h pos pins s σ H _ I hq) fun us s1 ⟨xs, H1, I1, r, z, q⟩ => ⟨by rw [<- r.length]; exact z, ?_⟩)
  have hf : H1 s1.heap.objs.size = none := I1.hok.fresh (Nat.le_refl _)
  refine ⟨.ref s1.heap.objs.size, upd H1 s1.heap.objs.size (.tup xs), I1.laid (t' := s1.toks) (fun b u e => Heap.get?_push_of_some _ e) (Nat.le_refl _) ?_, rfl, q _ hf⟩
  exact ⟨z, us, r, ⟨_, Heap.get?_push_size _ rfl, rfl, _, rfl⟩⟩
theorem pe_lst (h : PA X es t) : PE X (.List es pos) (tLst t) := by
  intro pins s σ H Q I hq
  refine wpAny_List_spliced (thn (h pos pins s σ H _ I hq) fun us s1 ⟨xs, H1, I1, r, z, q⟩ => ⟨by rw [<- r.length]; exact z, ?_⟩)
  have hf : H1 s1.heap.objs.size = none := I1.hok.fresh (Nat.le_refl _)
  refine ⟨.ref s1.heap.objs.size, upd H1 s1.heap.objs.size (.lst xs), I1.laid (t' := s1.toks) (fun b u e => Heap.get?_push_of_some _ e) (Nat.le_refl _) ?_, rfl, q _ hf⟩
  exact ⟨z, us, 0, r, Heap.get?_push_size _ rfl⟩
end
abbrev Sp := List V -> Hp -> VK -> XK -> Prop
abbrev CXT := List Env -> Hp -> Shared -> XK -> Value -> Shared -> Prop
structure Env0 (P : Program) (w : World) (K : PySem.W.Frag) (mg : Str -> Option Value) (base : Heap) (A : Around) (outer : List Env) (s : Shared) (H : Hp) : Prop where
  frames : A.frames = some outer
  mod : Mod K mg base
  bs : ∀ b o, base.get? b = some o -> s.heap.get? b = some o /\ H b = none
  bsz : base.objs.size <= s.heap.objs.size
  funs : s.heap.FunFrames base outer
  frf : ∀ b ∈ frs outer, H b = none
  hok : HOk P w H s.heap
  bare : AllBare s.gens
def CE (outer : List Env) (P : Program) (w : World) (H : Hp) (s : Shared) (Q : VK) (u : Value) (s' : Shared) : Prop :=
  ∃ v H', s'.os = s.os /\ AllBare s'.gens /\ Un (frs outer) [] H H' s.heap s'.heap /\ HOk P w H' s'.heap /\ RelV v u /\ Q v H'
def CR (CX : CXT) (outer : List Env) (P : Program) (w : World) (H : Hp) (s : Shared) (Q : VK) (E : XK) (r : Result) (s' : Shared) : Prop :=
  match r with
  | .ok (.ret u) => CE outer P w H s Q u s'
  | .ok _ => False
  | .error e => CX outer H s E e s'
structure FnOk (P : Program) (w : World) (K : PySem.W.Frag) (mg : Str -> Option Value) (base : Heap) (CX : CXT) (k : Nat) (f : Addr) (fd : FuncData) (ps : List Str) (sp : Sp) : Prop where
  len : ∀ vs H Q E, sp vs H Q E -> vs.length = ps.length
  run : ∀ (A : Around) (outer : List Env) (s : Shared) (H : Hp) (args : Args) (us : List Value) (vs : List V) (Q : VK) (E : XK), Room k A -> Env0 P w K mg base A outer s H -> BindsTo s fd args (ps.zip us) -> Vals vs us -> sp vs H Q E ->
    codeAny (model P w) A (.call (.ref f) args) (CR CX outer P w H s Q E) s
theorem FnOk.imp {P : Program} {w : World} {K : PySem.W.Frag} {mg : Str -> Option Value} {base : Heap} {CX : CXT} {k : Nat} {f : Addr} {fd : FuncData} {ps : List Str} {sp sp' : Sp} (F : FnOk P w K mg base CX k f fd ps sp)
    (h : ∀ vs H Q E, sp' vs H Q E -> sp vs H Q E) : FnOk P w K mg base CX k f fd ps sp' :=
  ⟨fun vs H Q E q => F.len vs H Q E (h _ _ _ _ q), fun A outer s H args us vs Q E hr he hb hv hs => F.run A outer s H args us vs Q E hr he hb hv (h _ _ _ _ hs)⟩
theorem Env0.make {P : Program} {w : World} {K : PySem.W.Frag} {mg : Str -> Option Value} {base : Heap} {A : Around} {outer : List Env} {s : Shared} {H : Hp} (e : Env0 P w K mg base A outer s H) (C : Addr) (us : List Value) (kw : List (Str × Value)) :
    Env0 P w K mg base (A.under (.builtin "type.__call__" ⟨.ref C :: us, kw⟩)) outer s H := ⟨by first | exact e.frames | (simpa [Around.under, Code.envs, Code.isFrame, pushEnvs] using e.frames), e.mod, e.bs, e.bsz, e.funs, e.frf, e.hok, e.bare⟩
section
variable {X : Cx} {pins : List (Addr × Obj)} {σ : St} {H : Hp} {s s' : Shared}
theorem Inv.env0 (I : Inv X pins σ H s) : Env0 X.prog X.w X.K X.mg X.base X.A X.stack s H :=
  ⟨I.ok.frames, I.ok.mod, I.bs, Nat.le_trans I.ok.bsz I.sz, I.stack, I.stkFree, I.hok, I.bare⟩
theorem Inv.after {Q : VK} {u : Value} (I : Inv X pins σ H s) (h : CE X.stack X.prog X.w H s Q u s') : EP X pins σ Q u s' := by
  obtain ⟨v, H', os, bare, un, hok, r, q⟩ := h
  obtain ⟨hh, g, d, t, os'⟩ := s'
  obtain rfl : os' = s.os := os
  exact ⟨v, H', I.call (h' := hh) (g' := g) (d' := d) (t' := t) (ch := []) un hok bare (fun b z => absurd z (by simp)), r, q⟩
end
def tCall (sp : Sp) (dvs : List V) (E : XK) (t : TA) : TE := fun σ H Q => t σ H fun vs H1 => sp (vs ++ dvs) H1 Q E
def Binds (K : PySem.W.Frag) (fd : FuncData) (ps : List Str) (ds : List Value) : Prop :=
  ∀ (s : Shared) (us : List Value), K.In s.heap -> (us ++ ds).length = ps.length -> BindsTo s fd ⟨us, []⟩ (ps.zip (us ++ ds))
theorem Binds.all {K : PySem.W.Frag} {fd : FuncData} {ps : List Str} (h : ∀ us : List Value, us.length = ps.length -> bindArgs fd ⟨us, []⟩ = pure (ps.zip us)) : Binds K fd ps [] := fun s us _ hl => by
  rw [List.append_nil] at hl ⊢
  exact .of_eq (h us hl)
def Passes (CX : CXT) (X : Cx) (E : XK) : Prop := ∀ (pins : List (Addr × Obj)) (σ : St) (H : Hp) (s : Shared) (e : Value) (s' : Shared), Inv X pins σ H s -> CX X.stack H s E e s' -> X.xe e s'
section
variable {X : Cx} {CX : CXT} {k : Nat} {f C : Addr} {fd : FuncData} {ps : List Str} {sp : Sp} {dvs : List V} {ds : List Value} {E : XK} {x m : Str} {p pos apos : Pos} {e o : Expr} {es : List Expr} {ta : TE} {t : TA}
theorem run_fn {pins : List (Addr × Obj)} {σ : St} {H : Hp} {s : Shared} {Q : VK} {us : List Value} {vs : List V} (F : FnOk X.prog X.w X.K X.mg X.base CX k f fd ps sp) (hr : Room k X.A) (hb : Binds X.K fd ps ds) (hd : Vals dvs ds) (hx : Passes CX X E)
    (I : Inv X pins σ H s) (r : Vals vs us) (h : sp (vs ++ dvs) H Q E) : wpAny (model X.prog X.w) X.A (call (.ref f) us) (EP X pins σ Q) X.xe s := by
  have r2 : Vals (vs ++ dvs) (us ++ ds) := r.append hd
  have hl : (us ++ ds).length = ps.length := by rw [<- r2.length]; exact F.len _ _ _ _ h
  refine wpAny_call (codeAny_mono (F.run X.A X.stack s H ⟨us, []⟩ (us ++ ds) (vs ++ dvs) Q E hr I.env0 (hb s us I.kIn hl) r2 h) fun r s' hq => ?_)
  cases r with
  | error e => exact hx pins σ H s e s' I hq
  | ok fl =>
    cases fl with
    | ret u => exact I.after hq
    | next => exact False.elim hq
    | brk => exact False.elim hq
    | cont => exact False.elim hq
theorem pe_call (F : FnOk X.prog X.w X.K X.mg X.base CX k f fd ps sp) (hr : Room k X.A) (hg : Gl X x) (hm : X.mg x = some (.ref f)) (hk : PySem.W.keepIn X.K (.ref f) = true) (hb : Binds X.K fd ps ds) (hd : Vals dvs ds) (hx : Passes CX X E)
    (ha : PA X (e :: es) t) (hdb : (x == ("__debug__" : Str)) = false := by decide) (he : starEach (e :: es) X.env = (false, eval e X.env) :: starEach es X.env := by rfl) (hpl : (backTo pos (starEach es X.env)).any (·.1) = false := by rfl) :
    PE X (.Call (.Name x p) (e :: es) [] pos) (tCall sp dvs E t) := by
  intro pins s σ H Q I h
  refine wpAny_Call_Name_kw (ld_glob I hg hm ?_ hdb)
  refine PySem.W.callWith_K (h₀ := X.base) I.ok.mod.kin hk (thn (ha pos pins s σ H _ I h) fun us s1 ⟨vs, H1, I1, r, q⟩ => ⟨I1.kIn, ?_⟩) he hpl
  exact run_fn F hr hb hd hx I1 r q
structure Mk (K : PySem.W.Frag) (C f : Addr) : Prop where
  makes : PySem.W.makesIn K C = true
  init : PySem.W.findIn K (.ref C) "__init__" = some (some (.ref f))
  fn : PySem.W.isFn K (.ref f) = true
  kp : PySem.W.keepIn K (.ref C) = true
end
section
variable {X : Cx} {CX : CXT} {k : Nat} {f C : Addr} {fd : FuncData} {ps ks : List Str} {sp : Sp} {E : XK} {x m : Str} {p pos apos kpos : Pos} {e o : Expr} {es : List Expr} {kws : List Keyword} {te ta : TE} {t tk : TA} {nm : Option Str}
structure KBinds (K : PySem.W.Frag) (fd : FuncData) (ps ks : List Str) (g : List Value -> List Value -> List Value) (gV : List V -> List V -> List V) : Prop where
  to : ∀ (s : Shared) (us ws : List Value), K.In s.heap -> (g us ws).length = ps.length -> BindsTo s fd ⟨us, ks.zip ws⟩ (ps.zip (g us ws))
  rel : ∀ {vs : List V} {us : List Value} {zs : List V} {ws : List Value}, Vals vs us -> Vals zs ws -> Vals (gV vs zs) (g us ws)
variable {g : List Value -> List Value -> List Value} {gV : List V -> List V -> List V}
end
structure FnScope (N P : List Str) (sc : Scope) : Prop where
  kind : sc.kind = .function
  co : sc.isCoroutine = false
  gen : sc.isGenerator = false
  nd : N.Nodup
  pre : N.take P.length = P
  par : ∀ x ∈ P, sc.names.lookup x = some .local ∨ sc.names.lookup x = some .cell
  nofree : ∀ y ∈ sc.names, y.2 ≠ .free
theorem bindL_out {kindOf : Str -> Option NameKind} {x : Str} : ∀ {binds : List (Str × Value)} {m : Str -> Option Value}, (∀ v, (x, v) ∉ binds) -> bindL kindOf binds m x = m x
  | [], _, _ => rfl
  | (n, v) :: r, m, h => by
    unfold bindL
    rw [bindL_out fun w hw => h w (List.mem_cons_of_mem _ hw)]
    split
    · have : x ≠ n := by rintro rfl; exact h v List.mem_cons_self
      simp [this]
    · rfl
theorem bindC_out {kindOf : Str -> Option NameKind} {x : Str} : ∀ {binds : List (Str × Value)} {m : Str -> Option Value}, (∀ v, (x, v) ∉ binds) -> bindC kindOf binds m x = m x
  | [], _, _ => rfl
  | (n, v) :: r, m, h => by
    unfold bindC
    rw [bindC_out fun w hw => h w (List.mem_cons_of_mem _ hw)]
    split
    · rfl
    · have : x ≠ n := by rintro rfl; exact h v List.mem_cons_self
      simp [this]
theorem bindL_get {kindOf : Str -> Option NameKind} {x : Str} {v : Value} : ∀ {P : List Str} {vs : List Value} {i : Nat} {m : Str -> Option Value}, P.Nodup -> P[i]? = some x -> vs[i]? = some v -> kindOf x = some .local ->
    bindL kindOf (P.zip vs) m x = some v
  | [], _, _, _, _, h, _, _ => by simp at h
  | _ :: _, [], _, _, _, _, h, _ => by simp at h
  | p :: P, w :: vs, 0, m, nd, h1, h2, hk => by
    simp at h1 h2; subst h1; subst h2
    show bindL kindOf ((p, w) :: P.zip vs) m p = _
    unfold bindL
    rw [bindL_out fun v hv => (List.nodup_cons.mp nd).1 (List.of_mem_zip hv).1, if_pos hk]
    simp
  | p :: P, w :: vs, i + 1, m, nd, h1, h2, hk => by
    show bindL kindOf ((p, w) :: P.zip vs) m x = _
    unfold bindL
    exact bindL_get (i := i) (List.nodup_cons.mp nd).2 (by simpa using h1) (by simpa using h2) hk
theorem bindC_get {kindOf : Str -> Option NameKind} {x : Str} {v : Value} : ∀ {P : List Str} {vs : List Value} {i : Nat} {m : Str -> Option Value}, P.Nodup -> P[i]? = some x -> vs[i]? = some v -> kindOf x ≠ some .local ->
    bindC kindOf (P.zip vs) m x = some v
  | [], _, _, _, _, h, _, _ => by simp at h
  | _ :: _, [], _, _, _, _, h, _ => by simp at h
  | p :: P, w :: vs, 0, m, nd, h1, h2, hk => by
    simp at h1 h2; subst h1; subst h2
    show bindC kindOf ((p, w) :: P.zip vs) m p = _
    unfold bindC
    rw [bindC_out fun v hv => (List.nodup_cons.mp nd).1 (List.of_mem_zip hv).1, if_neg hk]
    simp
  | p :: P, w :: vs, i + 1, m, nd, h1, h2, hk => by
    show bindC kindOf ((p, w) :: P.zip vs) m x = _
    unfold bindC
    exact bindC_get (i := i) (List.nodup_cons.mp nd).2 (by simpa using h1) (by simpa using h2) hk
def start (N : List Str) (vs : List V) : St := vs.map some ++ List.replicate (N.length - vs.length) none
def cxOf (CX : CXT) (P : Program) (w : World) (K : PySem.W.Frag) (mg : Str -> Option Value) (base : Heap) (N : List Str) (qual : Str) (scope : Scope) (f : Addr) (cd : Value) (A : Around) (outer : List Env) (s : Shared) (H : Hp) (E : XK) : Cx where
  prog := P
  w := w
  K := K
  mg := mg
  base := base
  A := A.deeper (envOfC qual scope s.heap.objs.size f cd)
  N := N
  s₀ := s
  H₀ := H
  env := envOfC qual scope s.heap.objs.size f cd
  outer := outer
  stack := envOfC qual scope s.heap.objs.size f cd :: outer
  ex := []
  calm := true
  fn := fun _ => true
  pn := []
  xe := fun e s' => wpAny (model P w) (A.deeper (envOfC qual scope s.heap.objs.size f cd)) (leaving (envOfC qual scope s.heap.objs.size f cd) e) (fun _ s'' => CX outer H s E e s'') (fun e' s'' => CX outer H s E e' s'') s'
theorem cell_has {sc : Scope} {n : Nat} {x : Str} (h : sc.names.lookup x = some .cell) : ∃ c, (cellsFrom n sc.names []).lookup x = some c := by
  have q := PySem.W.cellsFrom_some sc.names n [] (.inl h)
  exact Option.isSome_iff_exists.mp q
theorem inv_start {CX : CXT} {P : Program} {w : World} {K : PySem.W.Frag} {mg : Str -> Option Value} {base : Heap} {N ps : List Str} {qual : Str} {scope : Scope} {f : Addr} {cd : Value} {A : Around} {outer : List Env} {s s1 : Shared} {H : Hp} {E : XK} {us : List Value} {vs : List V}
    (S : FnScope N ps scope) (hd : A.handled = none) (e0 : Env0 P w K mg base A outer s H) (hl : vs.length = ps.length) (r : Vals vs us)
    (x : InCallC s s.heap.objs.size (bindL (envOfC qual scope s.heap.objs.size f cd).kindOf (ps.zip us) fun _ => none) (cellsFrom (s.heap.objs.size + 1) scope.names []) (bindC (envOfC qual scope s.heap.objs.size f cd).kindOf (ps.zip us) fun _ => none) s1) :
    Inv (cxOf CX P w K mg base N qual scope f cd A outer s H E) [] (start N vs) H s1 := by
  have hpl : ps.length <= N.length := by have := congrArg List.length S.pre; rw [List.length_take] at this; omega
  obtain ⟨h1, tk, rfl, hk⟩ := x.done
  have noA : ∀ b : Addr, b ∉ (cxOf CX P w K mg base N qual scope f cd A outer s H E).ex := fun b z => absurd (show b ∈ ([] : List Addr) from z) (by simp)
  refine ⟨⟨e0.mod, S.kind, rfl, rfl, Nat.le_refl _, fun y z c h1 h2 => ?_, fun y hy => ?_, fun y c _ h => ?_, fun _ => hd, Around.frames_deeper e0.frames, .inr ⟨rfl, rfl⟩, fun b z => absurd z (noA b), e0.bs, e0.bsz, fun b _ _ => noA b, fun b z => absurd z (noA b), e0.funs, e0.frf⟩,
    rfl, e0.bare, Un.kept hk, ⟨_, x.toInCall.ns, fun i y v h1 h2 h3 => ?_⟩, fun y c h => ⟨_, x.cell y c h⟩, e0.hok.fresh (Nat.le_refl _), fun y c h => ?_, fun p hp => absurd (show p ∈ ([] : List (Addr × Obj)) from hp) (by simp), e0.hok.kept hk, ?_⟩
  · exact name_of_addr x.apart (PySem.mem_of_lookup h1) (PySem.mem_of_lookup h2)
  · have hy : scope.names.lookup y = some .cell ∨ scope.names.lookup y = some .free := hy
    rcases hy with hy | hy
    · exact cell_has hy
    · exact absurd rfl (S.nofree _ (PySem.mem_of_lookup hy))
  · exact Nat.le_of_lt (x.above y c (PySem.mem_of_lookup h))
  · have hi : i < vs.length := by
      unfold start at h2
      by_cases hi : i < vs.length
      · exact hi
      · rw [List.getElem?_append_right (by simpa using hi)] at h2
        rw [List.getElem?_replicate] at h2
        split at h2 <;> cases h2
    have ha : vs[i]? = some v := by
      unfold start at h2
      rw [List.getElem?_append_left (by simpa using hi), List.getElem?_map] at h2
      cases e : vs[i]? with
      | none => rw [e] at h2; cases h2
      | some a => rw [e] at h2; cases h2; rfl
    obtain ⟨u, hu, rv⟩ := r.get ha
    have hp : ps[i]? = some y := by
      rw [<- S.pre, List.getElem?_take_of_lt (by omega)]; exact h1
    have ndP : ps.Nodup := by rw [<- S.pre]; exact S.nd.sublist (List.take_sublist _ _)
    refine ⟨u, rv, ?_⟩
    rcases S.par y (List.mem_of_getElem? hp) with k | k
    · exact .inl ⟨k, bindL_get ndP hp hu k⟩
    · obtain ⟨c, e⟩ := cell_has (n := s.heap.objs.size + 1) k
      refine .inr ⟨.inl k, c, e, ?_⟩
      have q := x.cell y c e
      rw [bindC_get ndP hp hu (by show scope.names.lookup y ≠ _; rw [k]; decide)] at q
      exact q
  · exact e0.hok.fresh (Nat.le_of_lt (x.above y c (PySem.mem_of_lookup h)))
  · unfold start
    show _ = N.length
    rw [List.length_append, List.length_map, List.length_replicate]
    omega
theorem fn_of {CX : CXT} {P : Program} {w : World} {K : PySem.W.Frag} {mg : Str -> Option Value} {base : Heap} {k : Nat} {f : Addr} {name qual : Str} {params : Arguments} {body : List Stmt} {scope : Scope} {dV kV doc pm cdv ct oc : Value} {an od : Option Addr}
    {osl : Array (Option Value)} {N ps : List Str} {sp : Sp} (lk : K.lookup f = some ⟨oc, od, .func (PySem.W.fnOf name qual params body scope dV kV doc pm an cdv ct), osl⟩) (hcd : PySem.W.codeIn K cdv qual = true) (S : FnScope N ps scope)
    (len : ∀ vs H Q E, sp vs H Q E -> vs.length = ps.length)
    (hbody : ∀ (A : Around) (outer : List Env) (s : Shared) (H : Hp) (vs : List V) (Q : VK) (E : XK), Room k (A.deeper (envOfC qual scope s.heap.objs.size f cdv)) -> sp vs H Q E ->
      ∃ t, PSs (cxOf CX P w K mg base N qual scope f cdv A outer s H E) body t /\ t { nx := fun _ H' => Q .non H', rt := Q } (start N vs) H) :
    FnOk P w K mg base CX (k + 1) f (PySem.W.fnOf name qual params body scope dV kV doc pm an cdv ct) ps sp := by
  refine ⟨len, fun A outer s H args us vs Q E hr e0 hb r hsp => ?_⟩
  have hl := len _ _ _ _ hsp
  have KX : K.In s.heap := e0.mod.kin.keeps fun b o e => (e0.bs b o e).1
  have lim : s.heap.NoLimit := e0.mod.nolimit.keeps fun b o e => (e0.bs b o e).1
  have hkind : ∀ y ∈ ps.zip us, scope.names.lookup y.1 = some .local ∨ (scope.names.lookup y.1 = some .cell /\ ((cellsFrom (s.heap.objs.size + 1) scope.names []).lookup y.1).isSome = true) := fun ⟨n, v⟩ hy => by
    rcases S.par n (List.of_mem_zip hy).1 with q | q
    · exact .inl q
    · exact .inr ⟨q, PySem.W.cellsFrom_some _ _ _ (.inl q)⟩
  refine codeAny_call_function hr.depth (KX _ _ lk) rfl S.co S.gen rfl (PySem.W.codeRec_of KX hcd) (hb _ _ _ _ ?_)
  refine wpAny_newFunctionEnv_cells S.kind hkind fun env he s1 x => ?_
  subst he
  refine ⟨lim.keeps x.toInCall.keep, codeAny_func ?_⟩
  obtain ⟨t, ht, hq⟩ := hbody A outer s H vs Q E (hr.deeper _) hsp
  have I : Inv (cxOf CX P w K mg base N qual scope f cdv A outer s H E) [] (start N vs) H s1 := inv_start S hr.hd e0 hl r x
  refine wpAny_mono (ht [] s1 (start N vs) H _ I hq) (fun fl s' hs => ?_) fun e s' hs => hs
  have fin : ∀ {σ' : St} {H' : Hp} {v : V} {u : Value}, Inv (cxOf CX P w K mg base N qual scope f cdv A outer s H E) [] σ' H' s' -> RelV v u -> Q v H' -> CE outer P w H s Q u s' :=
    fun {σ' H' v u} J rv q => ⟨v, H', J.os, J.bare, J.base, J.hok, rv, q⟩
  cases fl with
  | ret u =>
    obtain ⟨v, σ', H', J, rv, q⟩ := hs
    exact fin J rv q
  | next =>
    obtain ⟨σ', H', J, q⟩ := hs
    exact fin (v := V.non) (u := Value.none) J rfl q
  | brk =>
    obtain ⟨_, _, _, q⟩ := hs
    exact False.elim q
  | cont =>
    obtain ⟨_, _, _, q⟩ := hs
    exact False.elim q
section
variable {X : Cx} {x : Str} {p pos : Pos} {e : Expr} {es : List Expr} {t : TA} {id T : String} {r : List V -> Hp -> VK -> Prop}
def tCB (r : List V -> Hp -> VK -> Prop) (t : TA) : TE := fun σ H Q => t σ H fun vs H1 => r vs H1 Q
theorem pe_callB (hc : CallR X (.builtin id) r) (hg : Gl X x) (hm : X.mg x = none) (hv : bootBuiltins x = some (.builtin id)) (ha : PA X (e :: es) t) (hn : x ≠ "__name__" := by decide) (hdb : (x == ("__debug__" : Str)) = false := by decide)
    (he : starEach (e :: es) X.env = (false, eval e X.env) :: starEach es X.env := by rfl) (hpl : (backTo pos (starEach es X.env)).any (·.1) = false := by rfl) : PE X (.Call (.Name x p) (e :: es) [] pos) (tCB r t) := by
  intro pins s σ H Q I h
  refine wpAny_Call_Name_kw (ld_blt I hg hm hv ?_ hn hdb)
  exact PyProof.Rows.callWith_builtin1 (thn (ha pos pins s σ H _ I h) fun us s1 ⟨vs, H1, I1, r1, q1⟩ => hc pins s1 σ H1 vs us Q I1 r1 q1) he hpl
theorem pe_callTy (hc : CallR X (.type T) r) (hg : Gl X x) (hm : X.mg x = none) (hv : bootBuiltins x = some (.type T)) (ha : PA X (e :: es) t) (hn : x ≠ "__name__" := by decide) (hdb : (x == ("__debug__" : Str)) = false := by decide)
    (he : starEach (e :: es) X.env = (false, eval e X.env) :: starEach es X.env := by rfl) (hpl : (backTo pos (starEach es X.env)).any (·.1) = false := by rfl) : PE X (.Call (.Name x p) (e :: es) [] pos) (tCB r t) := by
  intro pins s σ H Q I h
  refine wpAny_Call_Name_kw (ld_blt I hg hm hv ?_ hn hdb)
  exact PyProof.Rows.callWith_type1 (thn (ha pos pins s σ H _ I h) fun us s1 ⟨vs, H1, I1, r1, q1⟩ => hc pins s1 σ H1 vs us Q I1 r1 q1) he hpl
end
end L2
namespace HT
open PySem PyProof.Rows
section
open PySem.SeqAt
open PySem.AutoSeq1 (wpAny_loadPart')
open PySem.MeetsSeq PySem.MeetsSeq2 PySem.MeetsSeq3
end
section
variable {prog : Program} {w : World} {A : Around} {E : Value -> Shared -> Prop} {s : Shared}
def sIx (n d : Nat) : Option Int -> Nat
  | none => d
  | some v => if v < 0 then (v + (n : Int)).toNat else min v.toNat n
end
end HT
namespace L2
open PySem PySem.Spec PyProof.Rows
abbrev TO := St -> Hp -> (Option Int -> Hp -> Prop) -> Prop
def PO (X : Cx) (e : Option Expr) (t : TO) : Prop :=
  ∀ (pins : List (Addr × Obj)) (s : Shared) (σ : St) (H : Hp) (Q : Option Int -> Hp -> Prop), Inv X pins σ H s -> t σ H Q ->
    wpAny (model X.prog X.w) X.A (evalPart e X.env) (fun u s' => ∃ o H', Inv X pins σ H' s' /\ IsPart u o /\ Q o H') X.xe s
def tNoPart : TO := fun _ H Q => Q none H
def tPart (t : TE) : TO := fun σ H Q => t σ H fun x H1 => ∃ i, x = .int i /\ Q (some i) H1
section
variable {X : Cx} {e : Expr} {te : TE} {lo hi : Option Expr} {tl th : TO} {pos p2 : Pos}
theorem po_none : PO X none tNoPart := by
  intro pins s σ H Q I h
  rw [evalPart_none]
  exact wpAny_pure ⟨none, H, I, .none, h⟩
theorem po_some (h : PE X e te) : PO X (some e) (tPart te) := by
  intro pins s σ H Q I hw
  rw [evalPart_some]
  refine thn (h pins s σ H _ I hw) fun u s1 ⟨x, H1, I1, r1, q1⟩ => ?_
  obtain ⟨i, rfl, q⟩ := q1
  obtain ⟨t, rfl⟩ := r1
  exact ⟨some i, H1, I1, .int i t, q⟩
def SlR (X : Cx) (r : V -> Option Int -> Option Int -> Hp -> VK -> Prop) : Prop :=
  ∀ (pins : List (Addr × Obj)) (s : Shared) (σ : St) (H : Hp) (x : V) (v vl vu : Value) (lo hi : Option Int) (sl : Addr) (Q : VK), Inv X pins σ H s -> RelV x v -> s.heap.IsSliceOf sl vl vu .none -> IsPart vl lo -> IsPart vu hi -> r x lo hi H Q ->
    ∃ T id, typeLookup (.type T) "__getitem__" = pure (some (.builtin id)) /\ s.TypeIs v T /\ wpAny (model X.prog X.w) X.A (getItem v (.ref sl)) (EP X pins σ Q) X.xe s
def tSl (r : V -> Option Int -> Option Int -> Hp -> VK -> Prop) (te : TE) (tl th : TO) : TE := fun σ H Q => te σ H fun x H1 => tl σ H1 fun l H2 => th σ H2 fun u H3 => r x l u H3 Q
theorem pe_slice {r : V -> Option Int -> Option Int -> Hp -> VK -> Prop} (hr : SlR X r) (he : PE X e te) (hl : PO X lo tl) (hu : PO X hi th) : PE X (.Subscript e (.Slice lo hi none p2) pos) (tSl r te tl th) := by
  intro pins s σ H Q I h
  refine Subscript_ (thn (he pins s σ H _ I h) fun v s1 ⟨x, H1, I1, r1, q1⟩ => ?_)
  refine wpAny_Slice (thn (hl pins s1 σ H1 _ I1 q1) fun vl s2 ⟨l, H2, I2, pl, q2⟩ => thn (hu pins s2 σ H2 _ I2 q2) fun vu s3 ⟨u, H3, I3, pu, q3⟩ => ?_)
  rw [evalPart_none]
  refine wpAny_pure ?_
  have I4 : Inv X pins σ H3 { s3 with heap := s3.heap.push { cls := .type "slice", data := .fields #[vl, vu, .none] } } := I3.kept (t' := s3.toks) fun b ob q => Heap.get?_push_of_some _ q
  obtain ⟨T, id, hT, ht, hg⟩ := hr pins { s3 with heap := s3.heap.push { cls := .type "slice", data := .fields #[vl, vu, .none] } } σ H3 x v vl vu l u s3.heap.objs.size Q I4 r1 (Heap.IsSliceOf.new ..) pl pu q3
  show wpAny (model X.prog X.w) X.A (subscriptTail e (.Slice lo hi none p2) v (.ref s3.heap.objs.size)) (EP X pins σ Q) X.xe { s3 with heap := s3.heap.push { cls := .type "slice", data := .fields #[vl, vu, .none] } }
  exact tail_any (ops := [.ref s3.heap.objs.size, v]) ht hT hg (by with_unfolding_all rfl)
def cutV (xs : List V) (lo hi : Option Int) : List V := (xs.drop (HT.sIx xs.length 0 lo)).take (HT.sIx xs.length xs.length hi - HT.sIx xs.length 0 lo)
theorem cutV_length (xs : List V) (lo hi : Option Int) : (cutV xs lo hi).length <= xs.length := by
  unfold cutV
  rw [List.length_take, List.length_drop]
  omega
end
def ixN (n : Nat) (i : Int) : Option Nat := if 0 <= i then (if i < n then some i.toNat else none) else if -(n : Int) <= i then some (i + n).toNat else none
def atI {α : Type} (xs : List α) (i : Int) : Option α := (ixN xs.length i).bind fun j => xs[j]?
theorem ixN_seq {n : Nat} {i : Int} {j : Nat} (h : ixN n i = some j) : seqIndex? i n = some j /\ j < n /\ -(n : Int) <= i /\ i < n := by
  unfold ixN at h
  by_cases h0 : 0 <= i
  · rw [if_pos h0] at h
    by_cases h1 : i < n
    · rw [if_pos h1] at h
      have e : i.toNat = j := Option.some.inj h
      exact ⟨by rw [seqIndex_of h0 h1, e], by omega, by omega, h1⟩
    · rw [if_neg h1] at h; cases h
  · rw [if_neg h0] at h
    by_cases h1 : -(n : Int) <= i
    · rw [if_pos h1] at h
      have e : (i + n).toNat = j := Option.some.inj h
      exact ⟨by rw [seqIndex_neg (by omega) h1, e], by omega, h1, by omega⟩
    · rw [if_neg h1] at h; cases h
theorem atI_get {α : Type} {xs : List α} {i : Int} {v : α} (h : atI xs i = some v) : ∃ j, seqIndex? i xs.length = some j /\ xs[j]? = some v /\ j < xs.length /\ -(xs.length : Int) <= i /\ i < xs.length := by
  unfold atI at h
  cases e : ixN xs.length i with
  | none => rw [e] at h; cases h
  | some j =>
    rw [e] at h
    obtain ⟨h1, h2, h3, h4⟩ := ixN_seq e
    exact ⟨j, h1, h, h2, h3, h4⟩
def PlainIx (b : Expr) : Prop := ∀ o i, subscripted b false o i = operate [o, i] (getItem o i)
def IxR (X : Cx) (r : R2) : Prop :=
  ∀ (value slice : Expr) (pins : List (Addr × Obj)) (s : Shared) (σ : St) (H : Hp) (x y : V) (v u : Value) (Q : VK), Inv X pins σ H s -> RelV x v -> RelV y u -> r x y H Q ->
    subscripted slice false v u = operate [v, u] (getItem v u) -> wpAny (model X.prog X.w) X.A (subscriptTail value slice v u) (EP X pins σ Q) X.xe s
def MtR (X : Cx) (id : String) (r : V -> List V -> Hp -> VK -> Prop) : Prop :=
  ∀ (pins : List (Addr × Obj)) (s : Shared) (σ : St) (H : Hp) (x : V) (xs : List V) (v : Value) (us : List Value) (Q : VK), Inv X pins σ H s -> RelV x v -> Vals xs us -> r x xs H Q ->
    wpAny (model X.prog X.w) X.A (call (.builtin id) (v :: us)) (EP X pins σ Q) X.xe s
section
variable {X : Cx} {a b : Expr} {ta tb : TE} {pos : Pos}
theorem IxR.or {r r' : R2} (h : IxR X r) (h' : IxR X r') : IxR X (fun x y H Q => r x y H Q ∨ r' x y H Q) := by
  intro value slice pins s σ H x y v u Q I rx ry q hs
  rcases q with q | q
  · exact h value slice pins s σ H x y v u Q I rx ry q hs
  · exact h' value slice pins s σ H x y v u Q I rx ry q hs
theorem pe_ix {r : R2} (hr : IxR X r) (ha : PE X a ta) (hb : PE X b tb) (hs : PlainIx b) : PE X (.Subscript a b pos) (tOp r ta tb) := by
  intro pins s σ H Q I h
  exact Subscript_ (binT ha hb I h fun v u s2 x y H2 I2 rx ry q => hr a b pins s2 σ H2 x y v u Q I2 rx ry q (hs _ _))
def rIxL (K : PySem.W.Frag) : R2 := fun x y H Q => ∃ p xs i v, x = .ref p /\ y = .int i /\ SqL K H p xs /\ atI xs i = some v /\ Q v H
def rIxT (K : PySem.W.Frag) : R2 := fun x y H Q => ∃ p xs i v, x = .ref p /\ y = .int i /\ SqT K H p xs /\ atI xs i = some v /\ Q v H
def rIxS : R2 := fun x y H Q => ∃ z i c, x = .str z /\ y = .int i /\ z.length <= sizeLine /\ atI z.cps.toList i = some c /\ Q (.str ⟨#[c]⟩) H
theorem ix_list : IxR X (rIxL X.K) := by
  intro value slice pins s σ H x y v u Q I rx ry h hs
  obtain ⟨p, xs, i, z, rfl, rfl, hq, he, q⟩ := h
  cases rx
  obtain ⟨t, rfl⟩ := ry
  obtain ⟨its, r, pl, hz⟩ := I.list hq
  obtain ⟨j, h1, h2, h3, h4, h5⟩ := atI_get he
  obtain ⟨w, ew, rw'⟩ := r.get h2
  have hl := r.length
  have hn := line63
  have fin : EP X pins σ Q w s := ⟨z, H, I, rw', q⟩
  by_cases h0 : 0 <= i
  · have hj : i.toNat = j := by
      rw [seqIndex_of h0 h5] at h1
      exact Option.some.inj h1
    exact item_listR pl.isList h0 (by omega) (by rw [hj]; simpa using ew) fin hs
  · have hj : (i + (its.toArray.size : Int)).toNat = j := by
      rw [seqIndex_neg (by omega) h4] at h1
      rw [List.size_toArray, <- hl]
      exact Option.some.inj h1
    exact subscriptTail_builtinR (x := w) pl.isList.typeIs slot_list_getitem.lookup
      (wpAny_getItem_list_neg (Q := fun r s' => r = w /\ EP X pins σ Q r s') pl.isList (by omega) (by rw [List.size_toArray] <;> omega) (by omega) (by rw [hj]; simpa using ew) ⟨rfl, fin⟩) hs
theorem ix_tup : IxR X (rIxT X.K) := by
  intro value slice pins s σ H x y v u Q I rx ry h hs
  obtain ⟨p, xs, i, z, rfl, rfl, hq, he, q⟩ := h
  cases rx
  obtain ⟨t, rfl⟩ := ry
  obtain ⟨its, r, pl, hz⟩ := I.tuple hq
  obtain ⟨j, h1, h2, h3, h4, h5⟩ := atI_get he
  obtain ⟨w, ew, rw'⟩ := r.get h2
  have hl := r.length
  have hn := line63
  have fin : EP X pins σ Q w s := ⟨z, H, I, rw', q⟩
  exact subscriptTail_builtinR (x := w) pl.typeIs slot_tuple_getitem.lookup
    (getItem_tuple (j := j) (Q := fun r s' => r = w /\ EP X pins σ Q r s') pl (by omega) (by omega) (by rw [List.size_toArray, <- hl]; exact h1) (by simpa using ew) ⟨rfl, fin⟩) hs
theorem ix_str : IxR X rIxS := by
  intro value slice pins s σ H x y v u Q I rx ry h hs
  obtain ⟨z, i, c, rfl, rfl, hz, he, q⟩ := h
  obtain ⟨t, rfl⟩ := rx
  obtain ⟨t', rfl⟩ := ry
  obtain ⟨j, h1, h2, h3, h4, h5⟩ := atI_get he
  have hl : z.cps.toList.length = z.length := by simp [Str.length]
  rw [hl] at h1 h4 h5
  have hn := line63
  exact tail_any (typeIs_str s z t) slot_str_getitem.lookup (getItem_str (c := c) (by
    have e1 : decide (i < -(2 ^ 63 : Int)) = false := decide_eq_false (by omega)
    have e2 : decide (i ≥ 2 ^ 63) = false := decide_eq_false (by omega)
    rw [e1, e2, Bool.or_false]) (by rw [h1]; simpa using h2) ⟨.str ⟨#[c]⟩, H, I.tok _, ⟨_, rfl⟩, q⟩) hs
def rIx (K : PySem.W.Frag) : R2 := fun x y H Q => rIxL K x y H Q ∨ rIxT K x y H Q ∨ rIxS x y H Q
theorem ix_seq : IxR X (rIx X.K) := ix_list.or (ix_tup.or ix_str)
theorem slice_bounds (lo hi : Option Int) (n : Nat) : (sliceBounds lo hi none n).1 = ((HT.sIx n 0 lo : Nat) : Int) /\ (sliceBounds lo hi none n).2.1 = ((HT.sIx n n hi : Nat) : Int) /\ (sliceBounds lo hi none n).2.2 = 1 := by
  refine ⟨?_, ?_, rfl⟩
  · cases lo with
    | none => simp [sliceBounds, HT.sIx]
    | some i =>
      simp only [sliceBounds, HT.sIx, Option.getD_none, show (1 : Int) > 0 by decide, if_true]
      by_cases h : i < 0
      · simp only [h, if_true] <;> omega
      · simp only [h, if_false] <;> omega
  · cases hi with
    | none => simp [sliceBounds, HT.sIx]
    | some i =>
      simp only [sliceBounds, HT.sIx, Option.getD_none, show (1 : Int) > 0 by decide, if_true]
      by_cases h : i < 0
      · simp only [h, if_true] <;> omega
      · simp only [h, if_false] <;> omega
theorem slicePick_cut (its : List Value) (lo hi : Option Int) : slicePick its.toArray lo hi none = ((its.drop (HT.sIx its.length 0 lo)).take (HT.sIx its.length its.length hi - HT.sIx its.length 0 lo)).toArray := by
  obtain ⟨h1, h2, h3⟩ := slice_bounds lo hi its.toArray.size
  unfold slicePick
  rw [h1, h2, h3]
  simp only [sliceRange_one, pick_run, List.size_toArray] <;> rfl
def rSlL (K : PySem.W.Frag) : V -> Option Int -> Option Int -> Hp -> VK -> Prop := fun x lo hi H Q => ∃ a xs, x = .ref a /\ SqL K H a xs /\ ∀ p, H p = none -> Q (.ref p) (upd H p (.lst (cutV xs lo hi)))
theorem sl_list : SlR X (rSlL X.K) := by
  intro pins s σ H x v vl vu lo hi sl Q I rx hs pl pu h
  obtain ⟨a, xs, rfl, hx, q⟩ := h
  cases rx
  obtain ⟨its, r, ht, hz⟩ := I.list hx
  have hlen := r.length
  refine ⟨"list", _, slot_list_getitem.lookup, ht.isList.typeIs, ?_⟩
  refine wpAny_getItem_list_slice ht.isList hs pl pu .none (by simp) ?_ (by rw [List.size_toArray] <;> omega)
  rw [slicePick_cut, <- hlen]
  refine ⟨.ref s.heap.objs.size, _, I.laid (t' := s.toks) (o := .lst (cutV xs lo hi)) (fun b ob q => Heap.get?_push_of_some _ q) (Nat.le_refl _) ?_, rfl, q _ (I.hok.fresh (Nat.le_refl _))⟩
  exact ⟨Nat.le_trans (cutV_length xs lo hi) hz, _, 0, (r.drop (HT.sIx xs.length 0 lo)).take (HT.sIx xs.length xs.length hi - HT.sIx xs.length 0 lo), Heap.get?_push_size _ rfl⟩
def flatV : V -> Bool
  | .non => true
  | .bl _ => true
  | .int _ => true
  | .str _ => true
  | _ => false
def eqV : V -> V -> Bool
  | .non, .non => true
  | .bl a, .bl b => a == b
  | .bl a, .int b => (if a then 1 else 0) == b
  | .int a, .bl b => a == (if b then 1 else 0)
  | .int a, .int b => a == b
  | .str a, .str b => a == b
  | _, _ => false
theorem eqAt_V {A : Around} {s : Shared} {y x : V} {u v : Value} (ry : RelV y u) (rx : RelV x v) (fy : flatV y = true) (fx : flatV x = true) : SeqAt.EqAt A s u v (eqV y x) := by
  cases y with
  | non =>
    cases ry
    cases x with
    | non => cases rx; exact SeqAt.EqAt.same _
    | bl b => cases rx; exact SeqAt.EqAt.none_bool b
    | int b => obtain ⟨t, rfl⟩ := rx; exact SeqAt.EqAt.none_int b t
    | str b => obtain ⟨t, rfl⟩ := rx; exact SeqAt.EqAt.none_str b t
    | _ => exact absurd (show false = true from fx) Bool.false_ne_true
  | bl a =>
    cases ry
    cases x with
    | non => cases rx; exact SeqAt.EqAt.bool_none a
    | bl b => cases rx; exact SeqAt.EqAt.bool_bool a b
    | int b => obtain ⟨t, rfl⟩ := rx; exact SeqAt.EqAt.bool_int a b t
    | str b => obtain ⟨t, rfl⟩ := rx; exact SeqAt.EqAt.bool_str a b t
    | _ => exact absurd (show false = true from fx) Bool.false_ne_true
  | int a =>
    obtain ⟨t', rfl⟩ := ry
    cases x with
    | non => cases rx; exact SeqAt.EqAt.int_none a t'
    | bl b => cases rx; exact SeqAt.EqAt.int_bool a t' b
    | int b => obtain ⟨t, rfl⟩ := rx; exact SeqAt.EqAt.int_int a t' b t
    | str b => obtain ⟨t, rfl⟩ := rx; exact SeqAt.EqAt.int_str a t' b t
    | _ => exact absurd (show false = true from fx) Bool.false_ne_true
  | str a =>
    obtain ⟨t', rfl⟩ := ry
    cases x with
    | non => cases rx; exact SeqAt.EqAt.str_none a t'
    | bl b => cases rx; exact SeqAt.EqAt.str_bool a t' b
    | int b => obtain ⟨t, rfl⟩ := rx; exact SeqAt.EqAt.str_int a t' b t
    | str b => obtain ⟨t, rfl⟩ := rx; exact SeqAt.EqAt.str_str a t' b t
    | _ => exact absurd (show false = true from fx) Bool.false_ne_true
  | _ => exact absurd (show false = true from fy) Bool.false_ne_true
def eqU (x : V) (u : Value) : Bool := match u with
  | .none => eqV .non x
  | .bool b => eqV (.bl b) x
  | .int i _ => eqV (.int i) x
  | .str z _ => eqV (.str z) x
  | _ => false
theorem eqU_of {x y : V} {u : Value} (r : RelV y u) (f : flatV y = true) : eqU x u = eqV y x := by
  cases y with
  | non => cases r; rfl
  | bl b => cases r; rfl
  | int i => obtain ⟨t, rfl⟩ := r; rfl
  | str z => obtain ⟨t, rfl⟩ := r; rfl
  | _ => exact absurd (show false = true from f) Bool.false_ne_true
theorem any_eqU {x : V} : ∀ {xs : List V} {us : List Value}, Vals xs us -> xs.all flatV = true -> us.any (eqU x) = xs.any fun y => eqV y x
  | _, _, .nil, _ => rfl
  | y :: xs, u :: us, .cons r t, f => by
    rw [List.all_cons, Bool.and_eq_true] at f
    rw [List.any_cons, List.any_cons, eqU_of r f.1, any_eqU t f.2]
theorem mem_eqAt {A : Around} {s : Shared} {x : V} {v : Value} (rx : RelV x v) (fx : flatV x = true) : ∀ {xs : List V} {us : List Value}, Vals xs us -> xs.all flatV = true -> ∀ u ∈ us, SeqAt.EqAt A s u v (eqU x u)
  | _, _, .nil, _ => fun u hu => by cases hu
  | y :: xs, u :: us, .cons r t, f => fun u' hu => by
    rw [List.all_cons, Bool.and_eq_true] at f
    rcases List.mem_cons.mp hu with rfl | hu
    · rw [eqU_of r f.1]; exact eqAt_V r rx f.1 fx
    · exact mem_eqAt rx fx t f.2 u' hu
def inV (x : V) (xs : List V) : Bool := xs.any fun y => eqV y x
def rIn (K : PySem.W.Frag) (neg : Bool) : R2 := fun x y H Q => ∃ p xs, y = .ref p /\ (SqL K H p xs ∨ SqT K H p xs) /\ flatV x = true /\ xs.all flatV = true /\ Q (.bl (if neg then !inV x xs else inV x xs)) H
theorem op_in_seq : OpR X (compareOp .In) (rIn X.K false) := by
  intro pins s σ H x y v u Q I rx ry h
  obtain ⟨p, xs, rfl, hq, fx, fs, q⟩ := h
  cases ry
  rcases hq with hq | hq
  · obtain ⟨its, r, pl, hz⟩ := I.list hq
    refine SeqAt.in_listAt (eqU x) pl.isList (fun w hw => mem_eqAt rx fx r fs w (by simpa using hw)) ⟨.bl _, H, I, rfl, ?_⟩
    rw [show its.toArray.any (eqU x) = its.any (eqU x) by simp, any_eqU r fs]
    exact q
  · obtain ⟨its, r, pl, hz⟩ := I.tuple hq
    refine SeqAt.in_tupleAt (eqU x) pl (fun w hw => mem_eqAt rx fx r fs w (by simpa using hw)) ⟨.bl _, H, I, rfl, ?_⟩
    rw [show its.toArray.any (eqU x) = its.any (eqU x) by simp, any_eqU r fs]
    exact q
def tyV (K : PySem.W.Frag) (T : String) (x : V) (H : Hp) : Prop := match x with
  | .str _ => T = "str"
  | .int _ => T = "int"
  | .ref p => (T = "list" /\ ∃ xs, SqL K H p xs) ∨ (T = "tuple" /\ ∃ o, K.lookup p = some o /\ o.cls = .type "tuple" /\ o.dict = none) ∨
      (T = "dict" /\ ((∃ kvs, H p = some (.dK kvs)) ∨ ∃ kvs, H p = some (.dT kvs))) ∨ (T = "set" /\ ∃ S n, H p = some (.set S n))
  | _ => False
theorem tyV_is {pins : List (Addr × Obj)} {σ : St} {H : Hp} {s : Shared} {T : String} {x : V} {v : Value} (I : Inv X pins σ H s) (r : RelV x v) (ty : tyV X.K T x H) :
    s.TypeIs v T /\ ∀ a, v = .ref a -> ∃ ob, s.heap.get? a = some ob /\ ob.dict = none := by
  cases x with
  | str z =>
    obtain ⟨t, rfl⟩ := r
    cases (show T = "str" from ty)
    exact ⟨typeIs_str s z t, fun _ e => nomatch e⟩
  | int i =>
    obtain ⟨t, rfl⟩ := r
    cases (show T = "int" from ty)
    exact ⟨typeIs_int s i t, fun _ e => nomatch e⟩
  | ref p =>
    cases r
    rcases ty with ⟨rfl, xs, hq⟩ | ⟨rfl, o, hk, hc, hd⟩ | ⟨rfl, hk⟩ | ⟨rfl, S, n, hk⟩
    · obtain ⟨its, _, pl, _⟩ := I.list hq
      refine ⟨pl.isList.typeIs, fun a e => ?_⟩
      cases e
      obtain ⟨o, n, e, c, hd, _⟩ := pl
      exact ⟨o, e, hd⟩
    · refine ⟨⟨o, I.kIn p o hk, hc⟩, fun a e => ?_⟩
      cases e
      exact ⟨o, I.kIn _ o hk, hd⟩
    · have z : ∃ o, s.heap.get? p = some o /\ o.ExactDict := by
        rcases hk with ⟨kvs, hk⟩ | ⟨kvs, hk⟩
        · obtain ⟨_, _, _, _, o, _, _, e, ex, _⟩ := I.hok p _ hk
          exact ⟨o, e, ex⟩
        · obtain ⟨_, _, _, _, o, _, _, e, ex, _⟩ := I.hok p _ hk
          exact ⟨o, e, ex⟩
      obtain ⟨o, e, ex⟩ := z
      refine ⟨⟨o, e, ex.1⟩, fun a e2 => ?_⟩
      cases e2
      exact ⟨o, e, ex.2.1⟩
    · obtain ⟨o, _, _, _, e, ex, _⟩ := I.hok p _ hk
      refine ⟨⟨o, e, ex.1⟩, fun a e2 => ?_⟩
      cases e2
      exact ⟨o, e, ex.2.1⟩
  | _ => exact False.elim ty
def tBM (K : PySem.W.Frag) (T : String) (r : V -> List V -> Hp -> VK -> Prop) (to : TE) (t : TA) : TE := fun σ H Q => to σ H fun x H1 => tyV K T x H1 /\ t σ H1 fun xs H2 => r x xs H2 Q
variable {o e : Expr} {es : List Expr} {to : TE} {t : TA} {name : Str} {apos cpos : Pos} {T id : String} {r : V -> List V -> Hp -> VK -> Prop}
theorem pe_bm (pa : PlainAttrs T) (slot : Slot T name id) (hty : typeOf (.builtin id) = pure (.type "method_descriptor")) (hm : MtR X id r) (ho : PE X o to) (ha : PA X (e :: es) t)
    (hbase : attributeBase o name X.env (eval o X.env) = eval o X.env := by rfl)
    (hfew : ((backTo cpos (starEach (e :: es) X.env)).all (fun x => !x.1) && (backToKw cpos (keywordEach [] X.env)).all (fun x => x.1.isSome)
      && decide ((e :: es).length + ([] : List Keyword).length + (if ([] : List Keyword).isEmpty then 0 else 1) < 30)) = true := by rfl)
    (hline : (apos.endLine == cpos.line) = true := by rfl) (hs : starEach (e :: es) X.env = (false, eval e X.env) :: starEach es X.env := by rfl) (hplain : (backTo cpos (starEach es X.env)).any (·.1) = false := by rfl) :
    PE X (.Call (.Attribute o name apos) (e :: es) [] cpos) (tBM X.K T r to t) := by
  intro pins s σ H Q I h
  refine wpAny_Call_method_late hbase hfew hline rfl (thn (ho pins s σ H _ I h) fun v s1 ⟨x, H1, I1, r1, ty, q1⟩ => ?_)
  obtain ⟨h1, h2⟩ := tyV_is I1 r1 ty
  refine ⟨T, id, pa, slot, hty, h1, h2, ?_⟩
  have hA := ha cpos pins s1 σ H1 _ I1 q1
  rw [hs] at hA ⊢
  refine Calls.callWith_builtin (by show (false || (backTo cpos (starEach es X.env)).any (·.1)) = false; rw [hplain] <;> rfl) (Calls.evalArgs_plain ?_)
  exact thn hA fun us s2 ⟨vs, H2, I2, r2, q2⟩ => hm pins s2 σ H2 x vs v us Q I2 r1 r2 q2
/- xs.append(e), list.index on a module's tuple .. are MtR facts of 06m -/
end
def MtM (X : Cx) (id : String) (r : V -> List V -> Hp -> VK -> Prop) : Prop :=
  ∀ (pins : List (Addr × Obj)) (s : Shared) (σ : St) (H : Hp) (x : V) (xs : List V) (v : Value) (us : List Value) (Q : VK), Inv X pins σ H s -> RelV x v -> Vals xs us -> r x xs H Q ->
    wpAny (model X.prog X.w) X.A (call (.builtin id) (v :: us)) (EP X pins σ Q) X.xe s
theorem Vals.one : ∀ {x : V} {us : List Value}, Vals [x] us -> ∃ u, us = [u] /\ RelV x u
  | _, _, .cons r .nil => ⟨_, rfl, r⟩
section
variable {X : Cx} {pins : List (Addr × Obj)} {σ : St} {H : Hp} {s : Shared} {l b : Addr} {xs ys zs : List V}
theorem Inv.lset {its its' : List Value} {n : Nat} {f : Array Value -> Array Value} {t' : Nat} (I : Inv X pins σ H s) (hH : H l = some (.lst xs))
    (e : s.heap.get? l = some { cls := .type "list", data := .seq its.toArray n }) (hf : f its.toArray = its'.toArray) (hv : Vals ys its') (hz : ys.length <= sizeLine) :
    Inv X pins σ (upd H l (.lst ys)) { s with heap := s.heap.update l (Obj.mapSeq f), toks := t' } := by
  have q := PySem.IsL.update e f
  rw [hf] at q
  refine I.write (x := l) (e := l) (by rw [hH]; exact trivial) (.inl rfl) (fun b' u hb hu => (Heap.get?_update_other s.heap (Obj.mapSeq f) (Ne.symm hb)).trans hu) ⟨_, q⟩ ?_
  exact ⟨hz, its', _, hv, q⟩
theorem Inv.lnew {its : List Value} {t' : Nat} (I : Inv X pins σ H s) (hv : Vals ys its) (hz : ys.length <= sizeLine) :
    Inv X pins σ (upd H s.heap.objs.size (.lst ys)) { s with heap := s.heap.push { cls := .type "list", data := .seq its.toArray }, toks := t' } :=
  I.laid (fun _ _ q => Heap.get?_push_of_some _ q) (Nat.le_refl _) ⟨hz, its, 0, hv, Heap.get?_push_size _ rfl⟩
theorem Inv.fresh (I : Inv X pins σ H s) : H s.heap.objs.size = none := I.hok.fresh (Nat.le_refl _)
theorem Inv.lstM (I : Inv X pins σ H s) (hH : H l = some (.lst xs)) : xs.length <= sizeLine /\ ∃ (its : List Value) (n : Nat), Vals xs its /\ xs.length = its.length /\ s.heap.get? l = some { cls := .type "list", data := .seq its.toArray n } := by
  obtain ⟨z, its, n, r, e⟩ := I.hok l _ hH
  exact ⟨z, its, n, r, r.length, e⟩
end
section
variable {X : Cx}
def rAppend : V -> List V -> Hp -> VK -> Prop := fun x vs H Q => ∃ l xs y, x = .ref l /\ vs = [y] /\ H l = some (.lst xs) /\ xs.length < sizeLine /\ Q .non (upd H l (.lst (xs ++ [y])))
theorem mt_append : MtM X "list.append" rAppend := by
  intro pins s σ H x vs v us Q I rx rv h
  obtain ⟨l, xs, y, rfl, rfl, hH, hz, q⟩ := h
  cases rx
  obtain ⟨u, rfl, ru⟩ := rv.one
  obtain ⟨z, its, n, r, hl, e⟩ := I.lstM hH
  refine call_meets F.slot_list_append ⟨_, e, rfl⟩ F.entry_list_append (F.args_list_append_2 _ _) (PySem.list_append l its.toArray n u (by rw [List.size_toArray]; omega)) ⟨e, ?_⟩
  refine ⟨.non, _, I.lset (its' := its ++ [u]) hH e (by simp) (r.append (.cons ru .nil)) ?_, rfl, q⟩
  rw [List.length_append, List.length_singleton]
  omega
end
section
variable {prog : Program} {w : World} {A : Around} {E : Value -> Shared -> Prop} {s : Shared}
end
section
variable {X : Cx}
end
end L2
namespace Att
open PySem PySem.W PySem.Calls PyProof.Rows
theorem ints_of_wellAll {P : Params} {h : Heap} : ∀ (ns : List Int) (vs : List Value), WellAll P h vs (ns.map WData.int) -> IntsAre vs ns := by
  intro ns
  induction ns with
  | nil =>
    intro vs w
    rw [List.map_nil] at w
    cases w
    exact .nil
  | cons n ns ih =>
    intro vs w
    rw [List.map_cons] at w
    cases w with
    | cons a b =>
      cases a
      exact .cons _ _ (ih _ b)
theorem script_of {l : OpenLaw} {n : Nat} (hn : l.most = some n) {P : Params} {h : Heap} {args : List WData} {vals : List Value}
    (hpre : l.row.toRowW.claim.pre args = true) (hwl : WellAll P h vals args) :
    ∃ a vs ns, vals = [Value.ref a] /\ args = [WData.list (ns.map WData.int)] /\ h.get? a = some { cls := .type "list", data := .seq vs.toArray } /\ IntsAre vs ns /\ ns.length <= n := by
  have hsh : WShape.hasAll [] args [.list .int] = true := (pre_splitW hpre).1
  have hc : l.pre.holds [] { args := args } = true := (pre_splitW hpre).2
  obtain ⟨d, r, rfl, h1, h2⟩ := hasAllW_cons hsh
  obtain rfl := hasAllW_nil h2
  obtain ⟨xs, rfl, h3⟩ := hasW_list h1
  obtain ⟨ns, rfl⟩ := items_int h3
  have hlen : ns.length <= n := by
    unfold OpenLaw.pre at hc
    have h4 : (WTm.not (.lt (.lit (.int (n : Int))) (.len (.arg 0)))).holds [] { args := [.list (ns.map .int)] } = true := by
      have h4 := (holds_andW hc).1
      rw [hn] at h4
      exact h4
    have h5 := condW_of h4 (w_not (w_lt w_lit (w_len_list (w_arg rfl))))
    rw [List.length_map] at h5
    refine Nat.le_of_not_lt fun q => ?_
    have q' : (n : Int) < ((ns.length : Nat) : Int) := by omega
    first
      | (rw [decide_eq_true q'] at h5; exact absurd h5 (by decide))
      | (simp at h5; omega)
  cases hwl with
  | cons w1 w2 =>
    cases w2
    cases w1 with
    | list ho hall => exact ⟨_, _, ns, rfl, rfl, ho, ints_of_wellAll ns _ hall, hlen⟩
theorem post_true (l : OpenLaw) (args : List WData) : l.row.toRowW.claim.post args (.bool true) args = true :=
  postW_of (r := l.row.toRowW) (X := (true == true))
    (show WShape.has [] (.bool true) .bool = true by first | rfl | decide | simp [WShape.has, WShape.arms, WShape.armsAll])
    (show (WTm.eq .res (.lit (.bool true))).value [] { args := args, res := some (.bool true), after := args } = some (.bool (true == true)) from w_eq_bool (w_res rfl) w_lit) rfl
theorem attach_call {l : OpenLaw} {n : Nat} {q : Program} {loose : List Str} {XP : (Str -> Option Value) -> Heap -> Prop} {YP : World -> Heap -> Prop} {d : DefRec}
    (hn : l.most = some n) (hdf : d.params.defaults = [])
    (call : ∀ (w : World) (s₀ s₁ : Shared) (mg mb : Str -> Option Value) (fa : Addr) (o : Obj) (pm cd doc : Value) (a : Addr) (vs : List Value) (ns : List Int),
      Ground q loose [] XP w s₀ mg mb s₁.heap -> YP w s₁.heap ->
      s₁.heap.get? fa = some o -> o.data = .func (docDef d.name d.params d.body d.scope pm cd doc) -> s₁.heap.CodeRec cd d.name -> mg d.name = some (.ref fa) ->
      s₁.heap.get? a = some { cls := .type "list", data := .seq vs.toArray } -> IntsAre vs ns -> ns.length <= n -> s₁.gens = #[] ->
      codeAny (model l.prog w) callerA (.call (.ref fa) ⟨[.ref a], []⟩) (fun r s' => r = .ok (.ret (.bool true)) /\ OldK s₁.heap s'.heap /\ s'.os = s₁.os /\ AllBare s'.gens) s₁) :
    WalkO q loose XP YP l.row.toRowW d [] (fun f vs => PySem.call f vs) := by
  intro w s₀ s₁ mg mb G Y fa o pm cd doc dV kV ho hd hcd hD hmg hg args vals as hpre hlay hrd hwl hlo
  obtain rfl : dV = .none := Dflts.none hD hdf
  obtain rfl : kV = .none := Dflts.noKw hD
  obtain ⟨a, vs, ns, rfl, rfl, hobj, hints, hlen⟩ := script_of hn hpre hwl
  refine enter_call (codeAny_mono (call w s₀ s₁ mg mb fa o pm cd doc a vs ns G Y ho (fd_plain hd) hcd hmg hobj hints hlen hg) fun r s' hq => ?_)
  obtain ⟨rfl, h2, h3, h4⟩ := hq
  exact ⟨.inl ⟨.bool true, .bool true, [], rfl, fun _ => rfl, .bool true, post_true l _, fun _ => ⟨List.Pairwise.nil, fun _ hm => (nomatch hm)⟩⟩, h2, h3, h4⟩
section
variable {prog : Program} {w : World} {A : Around} {E : Value -> Shared -> Prop} {s : Shared} {K : Frag}
def ledger (h : Heap) (L d : Addr) : List (Addr × Obj) := (List.range h.objs.size).filterMap fun a => if a = L ∨ a = d then none else (h.get? a).map fun o => (a, o)
end
end Att
namespace L2
open PySem PySem.Spec PyProof.Rows
theorem vals_ints : ∀ {vs : List Value} {ns : List Int}, IntsAre vs ns -> Vals (ns.map V.int) vs
  | _, _, .nil => .nil
  | _, _, .cons n t h => .cons ⟨t, rfl⟩ (vals_ints h)
def Only (H : Hp) : Prop := ∀ b, H b = none ∨ ∃ o xs, H b = some (.frz o (.lst xs))
theorem law_call {P : Program} {w : World} {K : PySem.W.Frag} {mg mb : Str -> Option Value} {CX : CXT} {k : Nat} {fa a : Addr} {fd : FuncData} {x : Str} {sp : Sp} {s₁ : Shared} {vs : List Value} {ns : List Int}
    (KX : K.In s₁.heap) (hns : s₁.heap.Ns mainGlobals mg) (hb : s₁.heap.Ns builtinsNs mb) (hbb : ∀ x : Str, x ≠ "__name__" -> mb x = bootBuiltins x) (hlim : s₁.heap.NoLimit) (hg : s₁.gens = #[])
    (ha : s₁.heap.get? a = some { cls := .type "list", data := .seq vs.toArray }) (hi : IntsAre vs ns) (hl : ns.length <= sizeLine) (hr : Room k callerA)
    (F : ∀ base : Heap, K.In base -> base.Ns mainGlobals mg -> FnOk P w K mg base CX k fa fd [x] sp) (hbind : ∀ (s : Shared) (u : Value), BindsTo s fd ⟨[u], []⟩ [(x, u)])
    (hsp : ∀ H : Hp, Only H -> SqL K H a (ns.map V.int) -> sp [.ref a] H (fun v _ => v = .bl true) fun _ _ _ => False)
    (hCX : ∀ H e s', CX [] H s₁ (fun _ _ _ => False) e s' -> False) :
    codeAny (model P w) callerA (.call (.ref fa) ⟨[.ref a], []⟩) (fun r s' => r = .ok (.ret (.bool true)) /\ OldK s₁.heap s'.heap /\ s'.os = s₁.os /\ AllBare s'.gens) s₁ := by
  have rv := vals_ints hi
  have lenV := hi.length
  have core : ∀ H : Hp, Only H -> SqL K H a (ns.map V.int) -> HOk P w H s₁.heap -> (∀ b, H b ≠ none -> b = a) -> (H a ≠ none -> K.lookup a = none) ->
      codeAny (model P w) callerA (.call (.ref fa) ⟨[.ref a], []⟩) (fun r s' => r = .ok (.ret (.bool true)) /\ OldK s₁.heap s'.heap /\ s'.os = s₁.os /\ AllBare s'.gens) s₁ := by
    intro H hO hS hok hA hK
    have base_of : ∀ {b : Addr} {o : Obj}, s₁.heap.get? b = some o -> H b = none -> (hidT s₁.heap H).get? b = some o := fun e n => hidT_get e n
    have noA : ∀ {b : Addr} {o : Obj} {es : Array DictEntry} {ep : Nat}, s₁.heap.get? b = some o -> o.data = .dict es ep -> H b = none := fun {b o es ep} e d => by
      cases q : H b with
      | none => rfl
      | some u =>
        have e' : b = a := hA b (by rw [q]; simp)
        subst e'
        rw [ha] at e; cases e
        have d' : Data.seq vs.toArray _ = Data.dict es ep := d
        cases d'
    have nsK : ∀ {b : Addr} {m : Str -> Option Value}, s₁.heap.Ns b m -> (hidT s₁.heap H).Ns b m := fun {b m} ⟨o, es, ep, e, d, r⟩ => ⟨o, es, ep, base_of e (noA e d), d, r⟩
    have hKb : K.In (hidT s₁.heap H) := fun b o e => base_of (KX b o e) (by
      cases q : H b with
      | none => rfl
      | some u =>
        have e' : b = a := hA b (by rw [q]; simp)
        subst e'
        rw [hK (by rw [q]; simp)] at e; cases e)
    have hM : Mod K mg (hidT s₁.heap H) := ⟨hKb, nsK hns, ⟨mb, nsK hb, hbb⟩, let ⟨mc, h1, h2⟩ := hlim; ⟨mc, nsK h1, h2⟩⟩
    have e0 : Env0 P w K mg (hidT s₁.heap H) callerA [] s₁ H := ⟨rfl, hM, fun b o e => of_hidT e, Nat.le_of_eq (hidT_size _ _), trivial, fun b hb => absurd (show b ∈ ([] : List Addr) from hb) (by simp), hok, .of_eq hg⟩
    refine codeAny_mono ((F _ hKb (nsK hns)).run callerA [] s₁ H ⟨[.ref a], []⟩ [.ref a] [.ref a] _ _ hr e0 (hbind s₁ (.ref a)) (.cons rfl .nil) (hsp H hO hS)) fun r s' h => ?_
    cases r with
    | error e => exact (hCX H e s' h).elim
    | ok fl =>
      cases fl with
      | next => exact False.elim h
      | brk => exact False.elim h
      | cont => exact False.elim h
      | ret u =>
        obtain ⟨v, H', os, bare, un, hok', r', q⟩ := h
        have q' : v = .bl true := q
        subst q'
        obtain rfl : u = Value.bool true := r'
        refine ⟨rfl, OldK.of_keep fun b o e => ?_, os, bare⟩
        cases q : H b with
        | none => exact un.keep b o e q (by intro z; exact absurd (show b ∈ ([] : List Addr) from z) (by simp)) (by simp)
        | some u =>
          rcases hO b with z | ⟨ob, xs, z⟩
          · rw [q] at z; cases z
          · have z2 := un.frzs b ob _ z
            obtain ⟨e1, _⟩ := hok b _ z
            obtain ⟨e2, _⟩ := hok' b _ z2
            rw [e] at e1; cases e1
            exact e2
  cases hk : K.lookup a with
  | some o =>
    have e := KX a o hk
    rw [ha] at e
    cases e
    refine core (fun _ => none) (fun _ => .inl rfl) (.inr ⟨_, vs.toArray, _, hk, rfl, rfl, rfl, by rw [List.size_toArray, lenV]; exact hl, by simpa using rv⟩) (fun b u z => by have z' : (none : Option HO) = some u := z; cases z') (fun b z => absurd rfl z) fun z => absurd rfl z
  | none =>
    refine core (fun b => if b = a then some (.frz { cls := .type "list", data := .seq vs.toArray } (.lst (ns.map V.int))) else none) (fun b => ?_) (.inl (.inr ⟨{ cls := .type "list", data := .seq vs.toArray }, if_pos rfl⟩)) (fun b u z => ?_) (fun b z => ?_) fun _ => hk
    · by_cases hb : b = a
      · exact .inr ⟨_, _, if_pos hb⟩
      · exact .inl (if_neg hb)
    · by_cases hb : b = a
      · have z' := (if_pos hb).symm.trans z
        cases z'
        subst hb
        exact ⟨ha, by rw [List.length_map]; exact hl, vs, _, rv, ha⟩
      · have z' := (if_neg hb).symm.trans z
        cases z'
    · by_cases hb : b = a
      · exact hb
      · exact absurd (if_neg hb) z
abbrev KOf {K : PySem.W.Frag} {h : Heap} (_ : K.In h) : PySem.W.Frag := K
theorem walk_of {l : PySem.W.OpenLaw} {n k : Nat} {q : Program} {loose : List Str} {XP : (Str -> Option Value) -> Heap -> Prop} {YP : World -> Heap -> Prop} {d : DefRec} {K : Params -> PySem.W.Frag} {CX : World -> CXT} {sp : World -> Sp} {x : Str}
    (hn : l.most = some n) (hn2 : n <= sizeLine) (hdf : d.params.defaults = []) (hr : Room k callerA)
    (hY : ∀ (w : World) (h : Heap), YP w h -> (K w.params).In h)
    (F : ∀ (w : World) (mg : Str -> Option Value) (fa : Addr) (h : Heap), (K w.params).In h -> h.Ns mainGlobals mg -> mg d.name = some (.ref fa) ->
      ∃ fd : FuncData, (∀ (s : Shared) (u : Value), BindsTo s fd ⟨[u], []⟩ [(x, u)]) /\
        ∀ base : Heap, (K w.params).In base -> base.Ns mainGlobals mg -> FnOk l.prog w (K w.params) mg base (CX w) k fa fd [x] (sp w))
    (hsp : ∀ (w : World) (H : Hp) (a : Addr) (ns : List Int), ns.length <= n -> Only H -> SqL (K w.params) H a (ns.map V.int) -> sp w [.ref a] H (fun v _ => v = .bl true) fun _ _ _ => False)
    (hCX : ∀ (w : World) (H : Hp) (s : Shared) (e : Value) (s' : Shared), CX w [] H s (fun _ _ _ => False) e s' -> False) :
    PySem.W.WalkO q loose XP YP l.row.toRowW d [] (fun f vs => PySem.call f vs) := by
  refine Att.attach_call hn hdf fun w s₀ s₁ mg mb fa o pm cd doc a vs ns G Y ho hd hcd hmg hobj hints hlen hg => ?_
  have KX := hY w _ Y
  obtain ⟨fd, hb, hF⟩ := F w mg fa _ KX G.T.g hmg
  exact law_call KX G.T.g G.T.b G.T.builtins G.T.nolimit hg hobj hints (Nat.le_trans hlen hn2) hr hF hb (fun H hO hS => hsp w H a ns hlen hO hS) fun H e s' => hCX w H s₁ e s'
end L2
/- THE LAST THEOREM (shape; LID, My.* are yours):
   My.Adr: a structure of the addresses that your layer names (classes, functions); My.Txt K t: a structure (Prop) of the equations over K;
   My.txt_mk : {K} {implicit addresses ..} (e1 : nsIn K mainGlobals "law" = some (some (.ref f))) (e2 : K.lookup f = some ⟨oc, od, .func (fnOf "law" "law" params body scope dV kV doc pm an cdv ct), sl⟩) (e3 : codeIn K cdv "law" = true) .. : ∃ t, My.Txt K t
set_option maxRecDepth 100000 in
set_option maxHeartbeats 0 in
theorem PySem.Challenge.cw_LID_holds : PySem.Challenge.rw_LID.Holds := by
  w_on; o_law; k_head; (case hw => w_witness2)
  k_fill
  refine L2.walk_of (l := PySem.Challenge.rw_LID) (n := 63) (k := 40) (x := "script") (CX := fun w => ..) (sp := fun _ => My.sp_law) rfl (by decide) rfl ⟨rfl, by decide, by decide⟩ (fun w h Y => PySem.W.kIn_of Y) ?F ?S ?C
  case F =>
    intro w mg fa h KX G hmg
    have T : ∃ t, My.Txt (L2.KOf KX) t := by
      dsimp only [L2.KOf]                          -- K must stand as «<heap const> w.params» for k_is
      refine' My.txt_mk ?e1 ?e2 ?e3 ..
      (case e1 => PySem.W.k_is)                    -- in the order: a name -> its address -> its object -> its parts
      (case e2 => PySem.W.k_is)
      ..
    obtain ⟨t, T⟩ := T
    have e0 := hmg.symm.trans (PySem.W.mg_of KX G T.law)
    cases e0                                       -- fa is the law's own address
    exact ⟨_, fun s u => .of_eq rfl, fun base kb nb => My.law_fn T kb nb⟩     -- if «.of_eq rfl» comes too early: refine' ⟨_, ?b, fun base kb nb => My.law_fn T kb nb⟩; exact fun s u => .of_eq rfl
  case S => exact fun w H a ns hl hO hS => ..
  case C => exact ..
(the tactic k_is has no namespace: write k_is) -/
namespace L2
open PySem PySem.Spec PyProof.Rows
def inClass (s : Stmt) (j : Nat) : Stmt := match s with
  | .ClassDef _ _ _ body _ _ _ _ _ _ _ => body.getD j (.Pass ⟨0, 0, 0, 0⟩)
  | _ => .Pass ⟨0, 0, 0, 0⟩
def defArgs (s : Stmt) : Arguments := match s with
  | .FunctionDef _ a _ _ _ _ _ _ _ _ => a
  | _ => { posonlyargs := [], args := [], vararg := none, kwonlyargs := [], kw_defaults := [], kwarg := none, defaults := [] }
def defBody (s : Stmt) : List Stmt := match s with
  | .FunctionDef _ _ b _ _ _ _ _ _ _ => b
  | _ => []
def defScope (s : Stmt) : Scope := match s with
  | .FunctionDef _ _ _ _ _ _ sc _ _ _ => sc
  | _ => { kind := .function, names := [], isGenerator := false, isCoroutine := false }
abbrev CX0 : CXT := fun _ _ _ _ _ _ => False
abbrev E0 : XK := fun _ _ _ => False
theorem pass0 {X : Cx} : Passes CX0 X E0 := fun _ _ _ _ _ _ _ h => h.elim
structure Fun (K : PySem.W.Frag) (x qual : Str) (st : Stmt) (f : Addr) (fd : FuncData) : Prop where
  ex : ∃ (oc : Value) (od : Option Addr) (kV doc pm : Value) (an : Option Addr) (cdv ct : Value) (osl : Array (Option Value)),
    fd = PySem.W.fnOf x qual (defArgs st) (defBody st) (defScope st) .none kV doc pm an cdv ct /\ K.lookup f = some ⟨oc, od, .func fd, osl⟩ /\ PySem.W.codeIn K cdv qual = true
  kp : PySem.W.keepIn K (.ref f) = true
section
variable {P : Program} {w : World} {K : PySem.W.Frag} {mg : Str -> Option Value} {base : Heap}
theorem Fun.ok {x qual : Str} {st : Stmt} {f : Addr} {fd : FuncData} {N ps : List Str} {k : Nat} {sp : Sp} (F : Fun K x qual st f fd) (S : FnScope N ps (defScope st)) (len : ∀ vs H Q E, sp vs H Q E -> vs.length = ps.length)
    (hbody : ∀ (cdv : Value) (A : Around) (outer : List Env) (s : Shared) (H : Hp) (vs : List V) (Q : VK) (E : XK), Room k (A.deeper (envOfC qual (defScope st) s.heap.objs.size f cdv)) -> sp vs H Q E ->
      ∃ t, PSs (cxOf CX0 P w K mg base N qual (defScope st) f cdv A outer s H E).nox (defBody st) t /\ t { nx := fun _ H' => Q .non H', rt := Q } (start N vs) H) : FnOk P w K mg base CX0 (k + 1) f fd ps sp := by
  obtain ⟨oc, od, kV, doc, pm, an, cdv, ct, osl, rfl, lk, hcd⟩ := F.ex
  refine fn_of lk hcd S len fun A outer s H vs Q E hr hsp => ?_
  obtain ⟨t, h, q⟩ := hbody cdv A outer s H vs Q E hr hsp
  exact ⟨t, h.nox, q⟩
theorem Fun.binds {x qual : Str} {st : Stmt} {f : Addr} {fd : FuncData} {ps : List Str} (F : Fun K x qual st f fd)
    (h : ∀ (kV doc pm : Value) (an : Option Addr) (cdv ct : Value) (us : List Value), us.length = ps.length -> bindArgs (PySem.W.fnOf x qual (defArgs st) (defBody st) (defScope st) .none kV doc pm an cdv ct) ⟨us, []⟩ = pure (ps.zip us)) : Binds K fd ps [] := by
  obtain ⟨oc, od, kV, doc, pm, an, cdv, ct, osl, rfl, lk, hcd⟩ := F.ex
  exact .all (h kV doc pm an cdv ct)
theorem fun_mk {x qual : Str} {st : Stmt} {f : Addr} {oc : Value} {od an : Option Addr} {osl : Array (Option Value)} {kV doc pm cdv ct : Value} (l : K.lookup f = some ⟨oc, od, .func (PySem.W.fnOf x qual (defArgs st) (defBody st) (defScope st) .none kV doc pm an cdv ct), osl⟩)
    (c : PySem.W.codeIn K cdv qual = true) (k : PySem.W.keepIn K (.ref f) = true) : Fun K x qual st f (PySem.W.fnOf x qual (defArgs st) (defBody st) (defScope st) .none kV doc pm an cdv ct) := ⟨⟨oc, od, kV, doc, pm, an, cdv, ct, osl, rfl, l, c⟩, k⟩
end
section
variable {X : Cx}
theorem pv (i : Nat) {x : Str} {pos : Pos} (hN : X.N[i]? = some x := by rfl) (hv : Vis X.env.scope x := by first | exact Or.inl rfl | exact Or.inr (Or.inl rfl) | exact Or.inr (Or.inr rfl)) (hd : (x == ("__debug__" : Str)) = false := by decide)
    (hcd : (x == ("__classdict__" : Str)) = false := by decide) : PE X (.Name x pos) (tVar i) := pe_var hN hv hd hcd
end
theorem iteF {A B : Prop} (h : B) : if false = true then A else B := by
  rw [if_neg Bool.false_ne_true]
  exact h
theorem iteT {A B : Prop} (h : A) : if true = true then A else B := by
  rw [if_pos rfl]
  exact h
def Same (H H' : Hp) : Prop := ∀ b o, H b = some o -> H' b = some o
theorem Same.refl (H : Hp) : Same H H := fun _ _ h => h
theorem Same.trans {H H1 H2 : Hp} (a : Same H H1) (b : Same H1 H2) : Same H H2 := fun c o h => b c o (a c o h)
theorem Same.free {H H' : Hp} (e : Same H H') {l : Addr} (h : H' l = Option.none) : H l = Option.none := by
  cases q : H l with
  | none => rfl
  | some o =>
    rw [e l o q] at h
    cases h
theorem Same.seq {K : PySem.W.Frag} {H H' : Hp} {a : Addr} {xs : List V} (e : Same H H') (h : SqL K H a xs) : SqL K H' a xs := by
  rcases h with (h | ⟨o, h⟩) | h
  · exact .inl (.inl (e _ _ h))
  · exact .inl (.inr ⟨o, e _ _ h⟩)
  · exact .inr h
end L2
namespace L3
open PySem PySem.Spec L2
open PyProof.Rows hiding St
section
variable {X : Cx} {pins : List (Addr × Obj)} {σ : St} {H H' : Hp} {s : Shared} {h' : Heap}
theorem turnedN {ch : List Addr} {t' : Nat} (I : Inv X pins σ H s) (k : ∀ b o, b ∉ ch -> s.heap.get? b = some o -> h'.get? b = some o) (hf : ∀ b ∈ ch, FpOk X pins H b) : Inv X pins σ H { s with heap := h', toks := t' } := by
  have nit : ∀ b u, H b = some u -> b ∉ ch := fun b u e z => by rw [(hf b z).1] at e; cases e
  refine I.step (g' := s.gens) (d' := s.drawn) (ch := ch) (fun b hb => ?_) (fun b o _ _ hc e _ => k b o hc e) (fun b o _ _ hc e _ => ⟨o.slots, k b o hc e⟩) (fun _ _ _ _ n => n)
    (fun b o hc e => ⟨o, k b o hc e⟩) (fun _ _ e => e) (fun _ _ _ e => e) (fun b ps e => ⟨#[], by rw [e]; simp⟩) (fun m hm => ?_) (fun b u e => ?_) I.bare
  · obtain ⟨_, f1, _, f3, f4, f5⟩ := hf b hb
    exact ⟨f3, f1, f4, f5⟩
  · obtain ⟨o, es, ep, ho, r⟩ := hm
    exact ⟨o, es, ep, k _ o (fun z => (hf _ z).2.1 rfl) ho, r⟩
  · refine (I.hok b u e).stay (fun c v hc q => k c v ?_ q) (fun _ q => q) fun _ _ q => q
    rcases hc with z | z
    · rw [z]; exact nit b u e
    · exact nit c _ z
theorem stepN {ch : List Addr} {t' : Nat} {T : Addr} {o : HO} (I : Inv X pins σ H s) (k : ∀ b o, b ∉ ch -> s.heap.get? b = some o -> h'.get? b = some o) (hf : ∀ b ∈ ch, FpOk X pins H b) (hT : s.heap.objs.size <= T)
    (new : ObjOk X.prog X.w (upd H T o) h' T o) : Inv X pins σ (upd H T o) { s with heap := h', toks := t' } := by
  have nit : ∀ b u, H b = some u -> b ∉ ch := fun b u e z => by rw [(hf b z).1] at e; cases e
  have nT : H T = none := I.hok.fresh hT
  refine I.step (g' := s.gens) (d' := s.drawn) (ch := ch) (fun b hb => ?_) (fun b o _ _ hc e _ => k b o hc e) (fun b o _ _ hc e _ => ⟨o.slots, k b o hc e⟩) (fun b u _ e n => ?_)
    (fun b o hc e => ⟨o, k b o hc e⟩) (fun b xs e => by rw [upd_ne (ne_of_none e nT)]; exact e) (fun b ob u e => by rw [upd_ne (ne_of_none e nT)]; exact e) (fun b ps e => ⟨#[], by rw [upd_ne (ne_of_none e nT), e]; simp⟩) (fun m hm => ?_) (fun b u e => ?_) I.bare
  · obtain ⟨_, f1, _, f3, f4, f5⟩ := hf b hb
    exact ⟨f3, f1, f4, f5⟩
  · rw [upd_ne (Nat.ne_of_lt (Nat.lt_of_lt_of_le (Heap.lt_size e) hT))]; exact n
  · obtain ⟨o, es, ep, ho, r⟩ := hm
    exact ⟨o, es, ep, k _ o (fun z => (hf _ z).2.1 rfl) ho, r⟩
  · by_cases hb : b = T
    · subst hb; rw [upd_same] at e; cases e; exact new
    · rw [upd_ne hb] at e
      refine (I.hok b u e).stay (fun c v hc q => k c v ?_ q) (fun c q => by rw [upd_ne (ne_of_none q nT)]; exact q) fun c xs q => by rw [upd_ne (ne_of_none q nT)]; exact q
      rcases hc with z | z
      · rw [z]; exact nit b u e
      · exact nit c _ z
end
def Ite (K : PySem.W.Frag) (a : Addr) : It :=
  ⟨fun i H => ∃ xs x, SqL K H a xs /\ xs[i]? = some x, fun i H x H' => ∃ T v, H T = none /\ x = .ref T /\ H' = upd H T (.tup [.int i, v]) /\ ∀ xs, SqL K H a xs -> xs[i]? = some v, fun i H => ∃ xs, SqL K H a xs /\ xs.length <= i⟩
theorem turn_enum {P : Program} {w : World} {K : PySem.W.Frag} {elts : List Expr} {k : Nat} {pos : Pos} (a e it : Addr) (hne : e ≠ it) :
    Turn P w K (.Tuple elts k pos) (Ite K a) [e, it] e (fun i h => (∃ old, IsEnum h e it i old) /\ h.IsListIter it a i) where
  mem := by simp
  obj := fun i h st b hb => by
    obtain ⟨⟨old, he⟩, o, e1, c, d⟩ := st
    rcases List.mem_cons.mp hb with rfl | hb
    · exact ⟨_, he, fun v z => by cases z⟩
    · rw [List.mem_singleton.mp hb]
      exact ⟨o, e1, fun v z => by rw [d] at z; cases z⟩
  keep := fun i h h' st k => ⟨let ⟨old, he⟩ := st.1; ⟨old, k e (by simp) _ he⟩, st.2.at fun o e => k it (by simp) o e⟩
  item := by
    intro X hP hw hK hc i pins s σ H E I hf st hg
    subst hP hw hK
    obtain ⟨⟨old, he⟩, hit⟩ := st
    obtain ⟨xs, x, hq, hx⟩ := hg
    obtain ⟨its, rv, p, hz⟩ := I.list hq
    obtain ⟨u, hu, ru⟩ := rv.get hx
    refine wpAny_pyNext_enum_item he hit p.isList (x := u) (by simpa using hu) hne fun h' ho hit' hT hsz hk => ⟨_, rfl, ?_⟩
    refine wpAny_letOwnedTupleGo_enum ho fun h'' he'' hs'' => ?_
    have nT : H s.heap.objs.size = none := I.hok.fresh (Nat.le_refl _)
    have hTe : s.heap.objs.size ≠ e := Nat.ne_of_gt (Heap.lt_size he)
    refine ⟨.ref s.heap.objs.size, upd H s.heap.objs.size (.tup [.int i, x]), stepN (s := s) (t' := s.toks + 1) (ch := [e, it]) I (fun b o hb q => ?_) hf (Nat.le_refl _) ?_, rfl, ⟨_, x, nT, rfl, rfl, fun ys hy => by rw [I.list_inj hy hq]; exact hx⟩, ⟨⟨_, by simpa using he''⟩, hit'.extBut hs''.extBut (Ne.symm hne)⟩, fun b hb => ?_⟩
    · have h1 : b ≠ e := fun z => hb (by simp [z])
      have h2 : b ≠ it := fun z => hb (by simp [z])
      exact hs''.extBut b o h1 (hk b o h1 h2 q)
    · exact ⟨(show 2 <= sizeLine by decide), [.int i s.toks, u], .cons ⟨_, rfl⟩ (.cons ru .nil), ⟨_, hs''.extBut _ _ hTe hT, rfl, _, rfl⟩⟩
    · have hb' : b ≠ s.heap.objs.size := by
        rcases List.mem_cons.mp hb with rfl | hb
        · exact Ne.symm hTe
        · rw [List.mem_singleton.mp hb]
          obtain ⟨o, e1, _⟩ := hit
          exact Nat.ne_of_lt (Heap.lt_size e1)
      rw [upd_ne hb']
      exact (hf b hb).1
  done := by
    intro X hP hw hK hc i pins s σ H E I hf st hg
    subst hP hw hK
    obtain ⟨⟨old, he⟩, hit⟩ := st
    obtain ⟨xs, hq, hx⟩ := hg
    obtain ⟨its, rv, p, hz⟩ := I.list hq
    have hl := rv.length
    refine wpAny_pyNext_enum_end (I.ok.hd hc) he hit p.isList (by simp; omega) fun h' eb => ⟨rfl, turnedN (t' := s.toks) (ch := [e, it]) I (fun b o hb q => eb b o (fun z => hb (by simp [z])) q) hf⟩
  self := fun _ _ _ _ _ st h => let ⟨_, he⟩ := st.1; wpAny_pyIter_enum he h
section
variable {X : Cx} {elts : List Expr} {tk : Nat} {tpos : Pos}
def iEnum (K : PySem.W.Frag) (ta : TA) : TI := fun σ H R => ta σ H fun vs H1 => ∃ a, vs = [.ref a] /\ (∃ xs, SqL K H1 a xs) /\ R (Ite K a) H1
theorem pi_enum {a : Expr} {ta : TA} {p pos : Pos} (hg : Gl X "enumerate") (hm : X.mg "enumerate" = none) (ha : PA X [a] ta) (hs : starEach [a] X.env = [(false, eval a X.env)] := by rfl) :
    PI X (.Tuple elts tk tpos) (.Call (.Name "enumerate" p) [a] [] pos) (iEnum X.K ta) := by
  intro pins s σ H R I h
  refine Call_ (ld_blt I hg hm (u := .type "enumerate") (by decide +kernel) (PyProof.Rows.callWith_type1 (thn (ha pos pins s σ H _ I h) fun us s1 ⟨vs, H1, I1, r1, q1⟩ => ?_) hs rfl))
  obtain ⟨a, e, ⟨xs, hq⟩, q⟩ := q1
  subst e
  obtain ⟨u, rfl, ru⟩ := vals1 r1
  cases ru
  obtain ⟨its, rv, pl, hz⟩ := I1.list hq
  refine call_enumerate_list pl.isList fun h' he hit hsz hk => wpAny_pyIter_enum he ?_
  have I2 : Inv X pins σ H1 { s1 with heap := h' } := I1.kept (t' := s1.toks) hk
  refine ⟨s1.heap.objs.size + 1, [s1.heap.objs.size + 1, s1.heap.objs.size], _, _, H1, rfl, I2, turn_enum a _ _ (show ((s1.heap.objs.size + 1 : Nat) ≠ s1.heap.objs.size) by omega), ⟨⟨_, he⟩, hit⟩, fun b hb => ?_, q⟩
  have hb' : s1.heap.objs.size <= b := by
    rcases List.mem_cons.mp hb with rfl | hb
    · exact Nat.le_succ _
    · rw [List.mem_singleton.mp hb]; exact Nat.le_refl _
  exact I1.fpOk hb' (I1.hok.fresh hb')
end
theorem compLoop_gen {prog : Program} {w : World} {A : Around} {R : Result -> Shared -> Prop} {s : Shared} {elt target iter : Expr} {ifs : List Expr} {scope : Scope} {pos : Pos} {it acc : Value} {env : Env} (I : Nat -> Shared -> Prop)
    (turn : ∀ n s, I n s -> wpAny (model prog w) A (pyNext it) (fun r s₁ => match r with
      | none => R (.ok .next) s₁
      | some v => wpAny (model prog w) A (letOwnedTupleGo target it v) (fun _ s₁' => wpAny (model prog w) A (assign target env v) (fun _ s₂ =>
          wpAny (model prog w) A (forIn ifs true fun c r => if r = true then do let ok <- isTrue c env (eval c env); pure (ForInStep.yield ok) else pure (ForInStep.yield r)) (fun ok s₃ =>
            if ok = true then wpAny (model prog w) A (eval elt env) (fun x s₄ =>
              wpAny (model prog w) A (call (.builtin "list.append") [acc, x]) (fun _ s₅ => ∃ m, m < n /\ I m s₅) (fun _ _ => False) s₄) (fun _ _ => False) s₃
            else ∃ m, m < n /\ I m s₃) (fun _ _ => False) s₂) (fun _ _ => False) s₁') (fun _ _ => False) s₁) (fun _ _ => False) s)
    (n : Nat) (h : I n s) : codeAny (model prog w) A (.compLoop (.ListComp elt [⟨target, iter, ifs, 0⟩] scope pos) 0 it acc env) R s := by
  refine codeAny_loop rfl I (fun n s hI => ?_) n h
  show wpAny _ A ((compTurn (.ListComp elt [⟨target, iter, ifs, 0⟩] scope pos) 0 it acc env).onRaise (fun x => do noteFrame x env; theTreesLotGoes x)) _ _ s
  refine wpAny_noted ?_
  rw [compTurn_list]
  refine wpAny_bind (wpAny_standAt (wpAny_bind (wpAny_mono (turn n s hI) (fun r s₁ h₁ => ?_) fun _ _ h' => h'.elim)))
  cases r with
  | none => exact wpAny_pure h₁
  | some v =>
    refine wpAny_bind (wpAny_mono h₁ (fun _ s₁' h₁' => ?_) fun _ _ h' => h'.elim)
    refine wpAny_bind (wpAny_mono h₁' (fun _ s₂ h₂ => wpAny_bind (wpAny_mono h₂ (fun ok s₃ h₃ => ?_) fun _ _ h' => h'.elim)) fun _ _ h' => h'.elim)
    cases ok with
    | false => exact wpAny_pure ⟨rfl, h₃⟩
    | true =>
      exact wpAny_bind (wpAny_bind (wpAny_mono h₃ (fun x s₄ h₄ => wpAny_bind (wpAny_mono h₄ (fun _ s₅ h₅ => wpAny_pure (wpAny_pure ⟨rfl, h₅⟩)) fun _ _ h' => h'.elim)) fun _ _ h' => h'.elim))
def clGo (cells : List (Str × Addr)) : List (Str × NameKind) -> List (Str × Addr) -> List (Str × Addr)
  | [], cs => cs
  | (n, k) :: r, cs => clGo cells r (if k == .free then (n, (cells.lookup n).getD 0) :: cs else cs)
theorem closure_of {scope : Scope} {env : Env} (h : ∀ x ∈ scope.names, x.2 = .free -> ∃ c, env.cells.lookup x.1 = some c) : closureFor scope env = pure (clGo env.cells scope.names []) := by
  simp only [closureFor]
  have go : ∀ (l : List (Str × NameKind)) (cs : List (Str × Addr)), (∀ x ∈ l, x.2 = .free -> ∃ c, env.cells.lookup x.1 = some c) ->
      (forIn l cs fun (x : Str × NameKind) (r : List (Str × Addr)) => (if (x.2 == NameKind.free) = true then do let a <- cellOf env x.1; pure (ForInStep.yield ((x.1, a) :: r)) else pure (ForInStep.yield r) : Sem (ForInStep (List (Str × Addr))))) = pure (clGo env.cells l cs) := by
    intro l
    induction l with
    | nil => intro cs _; rfl
    | cons x r ih =>
      intro cs hx
      obtain ⟨n, k⟩ := x
      rw [List.forIn_cons]
      by_cases hk : (k == NameKind.free) = true
      · obtain ⟨c, e⟩ := hx (n, k) List.mem_cons_self (by simpa using hk)
        have e' : env.cells.lookup n = some c := e
        have ec : cellOf env n = pure c := by unfold cellOf; rw [e']
        simp only [hk, if_true, ec, pure_bind]
        rw [ih _ fun y hy => hx y (List.mem_cons_of_mem _ hy)]
        simp only [clGo, hk, if_true, e', Option.getD_some]
      · simp only [hk, Bool.false_eq_true, if_false, pure_bind]
        rw [ih _ fun y hy => hx y (List.mem_cons_of_mem _ hy)]
        simp only [clGo, hk, Bool.false_eq_true, if_false]
  have := go scope.names [] h
  simpa using this
theorem clGo_sub {cells : List (Str × Addr)} : ∀ (l : List (Str × NameKind)) (cs : List (Str × Addr)) (x : Str) (c : Addr), (∀ y ∈ l, y.2 = .free -> ∃ c, cells.lookup y.1 = some c) -> (∀ x c, cs.lookup x = some c -> cells.lookup x = some c) ->
    (clGo cells l cs).lookup x = some c -> cells.lookup x = some c
  | [], cs, x, c, _, h, e => h x c e
  | (n, k) :: r, cs, x, c, hl, h, e => by
    refine clGo_sub r _ x c (fun y hy => hl y (List.mem_cons_of_mem _ hy)) (fun y d => ?_) e
    by_cases hk : (k == NameKind.free) = true
    · rw [if_pos hk]
      obtain ⟨c', e'⟩ := hl (n, k) List.mem_cons_self (by simpa using hk)
      have e' : cells.lookup n = some c' := e'
      intro q
      by_cases hy : y = n
      · subst hy
        rw [List.lookup_cons_self] at q
        rw [<- q, e']; rfl
      · rw [List.lookup_cons, beq_eq_false_iff_ne.mpr hy] at q
        exact h y d q
    · rw [if_neg hk]; exact h y d
theorem clGo_mono {cells : List (Str × Addr)} : ∀ (l : List (Str × NameKind)) (cs : List (Str × Addr)) (x : Str), (cs.lookup x).isSome = true -> ((clGo cells l cs).lookup x).isSome = true
  | [], cs, x, h => h
  | (n, k) :: r, cs, x, h => by
    refine clGo_mono r _ x ?_
    by_cases hk : (k == NameKind.free) = true
    · rw [if_pos hk]
      by_cases hy : x = n
      · subst hy; rw [List.lookup_cons_self]; rfl
      · rw [List.lookup_cons, beq_eq_false_iff_ne.mpr hy]; exact h
    · rw [if_neg hk]; exact h
theorem clGo_has {cells : List (Str × Addr)} : ∀ (l : List (Str × NameKind)) (cs : List (Str × Addr)) (x : Str), (x, NameKind.free) ∈ l -> ((clGo cells l cs).lookup x).isSome = true
  | [], cs, x, h => by simp at h
  | (n, k) :: r, cs, x, h => by
    rcases List.mem_cons.mp h with e | h
    · cases e
      exact clGo_mono r _ _ (by rw [if_pos (show (NameKind.free == NameKind.free) = true from rfl), List.lookup_cons_self]; rfl)
    · exact clGo_has r _ x h
def cxc (X : Cx) (scope : Scope) (C : Addr) (N : List Str) (s₀ : Shared) (H₀ : Hp) (fp : List Addr) (pn : List (Addr × Obj)) : Cx :=
  { X with N := N, s₀ := s₀, H₀ := H₀, env := compEnvC scope (clGo X.env.cells scope.names []) C X.env, outer := X.stack, stack := X.stack, ex := fp, fn := fun _ => false, pn := pn, xe := fun _ _ => False }
structure CompScope (X : Cx) (scope : Scope) (own : List Str) (cap : List (Str × Nat)) : Prop where
  kind : scope.kind = .function
  nocell : ∀ y ∈ scope.names, y.2 ≠ .cell
  names : ∀ y ∈ scope.names, y.2 = .local -> scope.names.lookup y.1 = some .local
  frees : ∀ y ∈ scope.names, y.2 = .free -> X.env.kindOf y.1 = some .cell ∨ X.env.kindOf y.1 = some .free
  caps : ∀ p ∈ cap, scope.names.lookup p.1 = some .free /\ X.N[p.2]? = some p.1
theorem lookup_relabel {env : Env} : ∀ {names : List (Str × NameKind)} {x : Str} {k' : NameKind},
    (names.map fun (n, k) => if (k == NameKind.free && env.scope.kind == .function && env.kindOf n == some .cell) then (n, NameKind.cell) else (n, k)).lookup x = some k' -> (k' = .cell ∨ k' = .free) -> (∀ y ∈ names, y.2 ≠ .cell) -> (x, NameKind.free) ∈ names
  | [], x, k', h, _, _ => by simp at h
  | (n, k) :: r, x, k', h, hk, hc => by
    have ih := @lookup_relabel env r x k'
    rw [List.map_cons] at h
    by_cases hq : (k == NameKind.free && env.scope.kind == .function && env.kindOf n == some .cell) = true
    · simp only [hq, if_true] at h
      have kf : k = NameKind.free := by
        simp only [Bool.and_eq_true, beq_iff_eq] at hq
        exact hq.1.1
      by_cases hx : x = n
      · subst hx; subst kf; exact List.mem_cons_self
      · rw [List.lookup_cons, beq_eq_false_iff_ne.mpr hx] at h
        exact List.mem_cons_of_mem _ (ih h hk fun y hy => hc y (List.mem_cons_of_mem _ hy))
    · simp only [hq, if_false] at h
      by_cases hx : x = n
      · subst hx
        have h' : some k = some k' := by
          have := h
          simp at this
          rw [this]
        cases h'
        rcases hk with z | z
        · exact absurd z (hc (x, k) List.mem_cons_self)
        · subst z; exact List.mem_cons_self
      · have h2 : List.lookup x (List.map (fun (n, k) => if (k == NameKind.free && env.scope.kind == .function && env.kindOf n == some .cell) then (n, NameKind.cell) else (n, k)) r) = some k' := by
          simpa [List.lookup_cons, beq_eq_false_iff_ne.mpr hx] using h
        exact List.mem_cons_of_mem _ (ih h2 hk fun y hy => hc y (List.mem_cons_of_mem _ hy))
theorem relabel_free {env : Env} : ∀ {names : List (Str × NameKind)} {x : Str}, names.lookup x = some .free ->
    (names.map fun (n, k) => if (k == NameKind.free && env.scope.kind == .function && env.kindOf n == some .cell) then (n, NameKind.cell) else (n, k)).lookup x = some .cell ∨
    (names.map fun (n, k) => if (k == NameKind.free && env.scope.kind == .function && env.kindOf n == some .cell) then (n, NameKind.cell) else (n, k)).lookup x = some .free
  | [], x, h => by simp at h
  | (n, k) :: r, x, h => by
    have ih := @relabel_free env r x
    rw [List.map_cons]
    by_cases hx : x = n
    · subst hx
      rw [List.lookup_cons_self] at h
      cases h
      by_cases hq : (NameKind.free == NameKind.free && env.scope.kind == .function && env.kindOf x == some .cell) = true
      · left; simp only [hq, if_true, List.lookup_cons_self]
      · right; simp only [hq, if_false]; simp
    · rw [List.lookup_cons, beq_eq_false_iff_ne.mpr hx] at h
      by_cases hq : (k == NameKind.free && env.scope.kind == .function && env.kindOf n == some .cell) = true
      · simp only [hq, if_true, List.lookup_cons, beq_eq_false_iff_ne.mpr hx]; exact ih h
      · have e : (if (k == NameKind.free && env.scope.kind == .function && env.kindOf n == some .cell) = true then (n, NameKind.cell) else (n, k)) = (n, k) := if_neg hq
        simp only [e, List.lookup_cons, beq_eq_false_iff_ne.mpr hx]; exact ih h
theorem mem_of_lookup' {names : List (Str × NameKind)} {x : Str} {k : NameKind} (h : names.lookup x = some k) : (x, k) ∈ names := PySem.mem_of_lookup h
theorem comp_ok {X : Cx} {scope : Scope} {own : List Str} {cap : List (Str × Nat)} (S : CompScope X scope own cap) {pins : List (Addr × Obj)} {σ : St} {H : Hp} {s : Shared} {C : Addr} {fp : List Addr} (I : Inv X pins σ H s) (hC : s.heap.objs.size <= C) (hf : ∀ b ∈ fp, FpOk X pins H b) (hlt : ∀ b ∈ fp, b < s.heap.objs.size) {N : List Str} {pn : List (Addr × Obj)} :
    (cxc X scope C N s H fp pn).Ok := by
  have hfr : ∀ y ∈ scope.names, y.2 = .free -> ∃ c, X.env.cells.lookup y.1 = some c := fun y hy hk => I.ok.has y.1 (S.frees y hy hk)
  have sub : ∀ x c, (clGo X.env.cells scope.names []).lookup x = some c -> X.env.cells.lookup x = some c := fun x c => clGo_sub _ _ x c hfr (fun x c e => by simp at e)
  refine ⟨I.ok.mod, S.kind, I.ok.glob, I.ok.blt, hC, fun x y c h1 h2 => I.ok.inj x y c (sub _ _ h1) (sub _ _ h2), fun x hx => ?_, fun x c h => (by cases h), I.ok.hd, I.ok.frames, .inl rfl, fun b hb => ⟨Nat.ne_of_lt (Nat.lt_of_lt_of_le (hlt b hb) hC), fun x c e => (hf b hb).2.2.2.2.1 x c (sub x c e)⟩, I.bs, Nat.le_trans I.ok.bsz I.sz, fun b o e hb => ?_, fun b hb z => ?_, I.stack, I.stkFree⟩
  · have hx' : (x, NameKind.free) ∈ scope.names := by
      rcases hx with z | z
      · exact lookup_relabel (env := X.env) z (.inl rfl) S.nocell
      · exact lookup_relabel (env := X.env) z (.inr rfl) S.nocell
    exact Option.isSome_iff_exists.mp (clGo_has scope.names [] x hx')
  · rcases (hf b hb).2.2.2.1 with z | z
    · exact I.ok.noex b o e z
    · exact absurd (Nat.lt_of_lt_of_le (Heap.lt_size (I.ok.bs b o e).1) z) (Nat.lt_irrefl _)
  · rcases List.mem_cons.mp (I.stkSub b z) with q | q
    · exact (hf b hb).2.1 q
    · exact (hf b hb).2.2.1 q
def tComp (wi : TI) (own : List Str) (cap : List (Str × Nat)) (g : TG) (tc : TT) (te : TE) : TE := fun σ H Q => wi σ H fun J H1 => ∃ W : Nat -> Nat -> List V -> Hp -> Prop, (∃ m, W 0 m [] H1) /\ ∀ i m ys H, W i m ys H ->
  ys.length <= sizeLine /\ ((J.stop i H /\ ∀ D, H D = none -> Q (.ref D) (upd H D (.lst ys))) ∨ (J.go i H /\ ∃ N : List V -> Hp -> Prop, (∀ ys' H', N ys' H' -> ∃ m', m' < m /\ W (i + 1) m' ys' H') /\
    ∀ x H', J.yld i H x H' -> ∀ σ1 : St, σ1.length = own.length -> g x (σ1 ++ cap.map fun p => (σ[p.2]?).getD none) H' fun σ2 H2 => (∃ σ1' : St, σ1'.length = own.length /\ σ2 = σ1' ++ cap.map fun p => (σ[p.2]?).getD none) /\
      tc σ2 H2 fun b H3 => if b = true then te σ2 H3 fun y H4 => N (ys ++ [y]) H4 else N ys H3))
def PIfs (X : Cx) (ifs : List Expr) (tc : TT) : Prop :=
  ∀ (pins : List (Addr × Obj)) (s : Shared) (σ : St) (H : Hp) (Q : Bool -> Hp -> Prop), Inv X pins σ H s -> tc σ H Q ->
    wpAny (model X.prog X.w) X.A (forIn ifs true fun c r => if r = true then do let ok <- isTrue c X.env (eval c X.env); pure (ForInStep.yield ok) else pure (ForInStep.yield r)) (TP X pins σ Q) X.xe s
def tTrue : TT := fun _ H Q => Q true H
theorem pifs_nil {X : Cx} : PIfs X [] tTrue := fun pins s σ H Q I h => wpAny_tests_nil ⟨H, I, h⟩
theorem un_done {fs ex : List Addr} {H0 H : Hp} {h0 h h' : Heap} {D C : Addr} {o : HO} (u : Un fs ex H0 H h0 h) (hD : h0.objs.size <= D) (hC : h0.objs.size <= C) (sb : Heap.SameBut C h h') (n : H D = none) : Un fs ex H0 (upd H D o) h0 h' := by
  have ne : ∀ b ob, h0.get? b = some ob -> b ≠ C := fun b ob e => Nat.ne_of_lt (Nat.lt_of_lt_of_le (Heap.lt_size e) hC)
  have nd : ∀ b ob, h0.get? b = some ob -> b ≠ D := fun b ob e => Nat.ne_of_lt (Nat.lt_of_lt_of_le (Heap.lt_size e) hD)
  refine ⟨fun b ob e q hb hx => (sb.2 b (ne b ob e)).trans (u.keep b ob e q hb hx), fun b ob e q hb hx => ?_, fun b ob e q hx => ?_, fun b ob e hx => ?_, fun b xs e => ?_, fun b ob xs e => ?_, fun b ps e => ?_⟩
  · obtain ⟨sl, z⟩ := u.slot b ob e q hb hx
    exact ⟨sl, (sb.2 b (ne b ob e)).trans z⟩
  · rw [upd_ne (nd b ob e)]; exact u.free b ob e q hx
  · obtain ⟨o', z⟩ := u.there b ob e hx
    exact ⟨o', (sb.2 b (ne b ob e)).trans z⟩
  · have z := u.tups b xs e
    rw [upd_ne (ne_of_none z n)]; exact z
  · have z := u.frzs b ob xs e
    rw [upd_ne (ne_of_none z n)]; exact z
  · obtain ⟨m, z⟩ := u.tbls b ps e
    exact ⟨m, by rw [upd_ne (ne_of_none z n)]; exact z⟩
theorem pe_lc {X : Cx} {elt tg iter : Expr} {ifs : List Expr} {scope : Scope} {pos : Pos} {own : List Str} {cap : List (Str × Nat)} {wi : TI} {g : TG} {tc : TT} {te : TE} (hc : X.calm = true) (S : CompScope X scope own cap) (hi : PI X tg iter wi)
    (hin : ∀ C s₀ H₀ fp pn, PG (cxc X scope C (own ++ cap.map (·.1)) s₀ H₀ fp pn) tg g /\ PIfs (cxc X scope C (own ++ cap.map (·.1)) s₀ H₀ fp pn) ifs tc /\ PE (cxc X scope C (own ++ cap.map (·.1)) s₀ H₀ fp pn) elt te)
    (hs : ∀ x, foldedSetIterable iter X.env x = pure x := by intro _; rfl) :
    PE X (.ListComp elt [⟨tg, iter, ifs, 0⟩] scope pos) (tComp wi own cap g tc te) := by
  intro pins s σ H Q I h
  rw [eval_ListComp]
  have hfr : ∀ y ∈ scope.names, y.2 = .free -> ∃ c, X.env.cells.lookup y.1 = some c := fun y hy hk => I.ok.has y.1 (S.frees y hy hk)
  refine wpAny_comprehension_free (use := none) rfl hs (closure_of hfr) S.kind S.names (thn (hi pins s σ H _ I h) fun xv s₁ h₁ => thn h₁ fun it s₂ h₂ => ?_)
  obtain ⟨it, fp, tn, J, H2, rfl, I2, T, st2, f2, W, ⟨m0, w0⟩, turn⟩ := h₂
  refine wpAny_newObj_type (wpAny_newFunctionEnv S.nocell (by intro y hy; simp at hy) (fun h₁ hns₁ hsb₁ => ?_) S.kind)
  dsimp only at hns₁ hsb₁ ⊢
  generalize hH3 : s₂.heap.push { cls := .type "list", dict := none, data := .seq ([] : List Value).toArray } = h3 at hns₁ hsb₁ ⊢
  have hC : h3.objs.size = s₂.heap.objs.size + 1 := by rw [<- hH3, Heap.size_push]
  have flt : ∀ b ∈ fp, b < s₂.heap.objs.size := fun b hb => let ⟨o, e, _⟩ := T.obj _ _ st2 b hb; Heap.lt_size e
  have old : ∀ b o, s₂.heap.get? b = some o -> h₁.get? b = some o := fun b o e => hsb₁.extBut b o (by rw [hC]; exact Nat.ne_of_lt (Nat.lt_succ_of_lt (Heap.lt_size e))) (Heap.get?_push_of_some _ (hH3 ▸ Heap.get?_push_of_some _ e))
  have hDC : s₂.heap.objs.size ≠ h3.objs.size := by rw [hC]; exact Nat.ne_of_lt (Nat.lt_succ_self _)
  have hacc : h₁.get? s₂.heap.objs.size = some { cls := .type "list", data := .seq ([] : List Value).toArray } := hsb₁.extBut _ _ hDC (Heap.get?_push_of_some _ (hH3 ▸ Heap.get?_push_size _ rfl))
  generalize hD : s₂.heap.objs.size = D at hacc hDC
  have hCle : s₂.heap.objs.size <= h3.objs.size := by rw [hC]; exact Nat.le_succ _
  generalize hCC : h3.objs.size = C at *
  have ok : (cxc X scope C (own ++ cap.map (·.1)) s₂ H2 fp (X.pn ++ pins)).Ok := comp_ok S I2 hCle f2 flt
  have sub : ∀ x c, (clGo X.env.cells scope.names []).lookup x = some c -> X.env.cells.lookup x = some c := fun x c => clGo_sub _ _ x c hfr (fun x c e => by simp at e)
  obtain ⟨hG, hT, hE⟩ := hin C s₂ H2 fp (X.pn ++ pins)
  have fl : ∀ {α : Type} {t : Sem α} {Q : α -> Shared -> Prop} {E : Value -> Shared -> Prop} {s : Shared}, wpAny (model X.prog X.w) X.A t Q (fun _ _ => False) s -> wpAny (model X.prog X.w) X.A t Q E s := fun h => wpAny_mono h (fun _ _ q => q) fun _ _ f => f.elim
  have dn : D ∉ frs X.stack := fun z => by
    rcases List.mem_cons.mp (I2.stkSub D z) with q | q
    · exact absurd I2.lt (by rw [<- q, hD]; exact Nat.lt_irrefl _)
    · exact I2.nofs (Nat.le_of_eq hD) q
  have pnl : ∀ p ∈ X.pn ++ pins, p.1 < s₂.heap.objs.size := fun p hp => Heap.lt_size (I2.pin p hp).1
  have celt : ∀ x c, (clGo X.env.cells scope.names []).lookup x = some c -> c < s₂.heap.objs.size := fun x c e => let ⟨v, q⟩ := I2.cell x c (sub x c e); q.lt
  have hDle : s₂.heap.objs.size <= D := Nat.le_of_eq hD
  have I0 : Inv (cxc X scope C (own ++ cap.map (·.1)) s₂ H2 fp (X.pn ++ pins)) [(D, { cls := .type "list", data := .seq ([] : List Value).toArray })] (List.replicate own.length none ++ cap.map fun p => (σ[p.2]?).getD none) H2 { s₂ with heap := h₁, toks := s₂.toks + ([] : List (Str × Value)).length } := by
    refine ⟨ok, rfl, I2.bare, Un.kept old, ⟨_, hns₁, fun i x v e1 e2 e3 => ?_⟩, fun x c e => ?_, I2.hok.fresh hCle, fun x c e => I2.freeC x c (sub x c e), fun p hp => ?_, I2.hok.kept old, ?_⟩
    · by_cases hi : i < own.length
      · rw [List.getElem?_append_left (by simpa using hi), List.getElem?_replicate] at e2
        rw [if_pos hi] at e2
        cases e2
      · have e1 : (own ++ cap.map (·.1))[i]? = some x := e1
        rw [List.getElem?_append_right (by omega), List.getElem?_map] at e1
        rw [List.getElem?_append_right (by simpa using hi), List.length_replicate, List.getElem?_map] at e2
        cases q : cap[i - own.length]? with
        | none => rw [q] at e1; cases e1
        | some p =>
          rw [q] at e1 e2
          have e1 : p.1 = x := Option.some.inj e1
          have e2 : (σ[p.2]?).getD none = some v := Option.some.inj e2
          obtain ⟨c1, c2⟩ := S.caps p (List.mem_of_getElem? q)
          have e2' : σ[p.2]? = some (some v) := by
            cases q2 : σ[p.2]? with
            | none => rw [q2] at e2; cases e2
            | some w => rw [q2] at e2; rw [show w = some v from e2]
          have hk := S.frees (p.1, .free) (mem_of_lookup' c1) rfl
          obtain ⟨m, hn, hl⟩ := I2.loc
          obtain ⟨u, ru, lk⟩ := hl p.2 p.1 v c2 e2' (.inr hk)
          refine ⟨u, ru, .inr ?_⟩
          rcases lk with ⟨k1, _⟩ | ⟨_, c, ec, hcell⟩
          · rcases hk with z | z
            · rw [k1] at z; cases z
            · rw [k1] at z; cases z
          · subst e1
            refine ⟨relabel_free (env := X.env) c1, ?_⟩
            obtain ⟨c', ec'⟩ := Option.isSome_iff_exists.mp (clGo_has (cells := X.env.cells) scope.names [] p.1 (mem_of_lookup' c1))
            have z := sub _ _ ec'
            rw [ec] at z; cases z
            obtain ⟨o, ho, hd⟩ := hcell
            exact ⟨c, ec', o, old c o ho, hd⟩
    · obtain ⟨v, o, ho, hd⟩ := I2.cell x c (sub x c e)
      exact ⟨v, o, old c o ho, hd⟩
    · rcases List.mem_append.mp (show p ∈ (X.pn ++ pins) ++ [(D, _)] from hp) with hp | hp
      · obtain ⟨q1, q2, q3, q4, q5⟩ := I2.pin p hp
        refine ⟨old _ _ q1, q2, Nat.ne_of_lt (Nat.lt_of_lt_of_le (Heap.lt_size q1) hCle), fun z => ?_, q5⟩
        rcases List.mem_cons.mp (I2.stkSub p.1 z) with q | q
        · exact q3 q
        · exact q4 q
      · rw [List.mem_singleton.mp hp]
        exact ⟨hacc, I2.hok.fresh hDle, hDC, dn, fun v z => by cases z⟩
    · show (List.replicate own.length none ++ cap.map _).length = (own ++ cap.map _).length
      simp
  have stat : ∀ {H' : Hp} {pl : List (Addr × Obj)}, (∀ p ∈ pl, p.1 = D ∨ p.1 ∈ fp -> p.1 = D) -> (∀ b ∈ fp, H' b = none) -> ∀ b ∈ fp, FpOk (cxc X scope C (own ++ cap.map (·.1)) s₂ H2 fp (X.pn ++ pins)) pl H' b := by
    intro H' pl hpl hn b hb
    refine ⟨hn b hb, Nat.ne_of_lt (Nat.lt_of_lt_of_le (flt b hb) hCle), fun z => ?_, .inl hb, fun x c e => (f2 b hb).2.2.2.2.1 x c (sub x c e), fun p hp => ?_⟩
    · rcases List.mem_cons.mp (I2.stkSub b z) with q | q
      · exact (f2 b hb).2.1 q
      · exact (f2 b hb).2.2.1 q
    · rcases List.mem_append.mp (show p ∈ (X.pn ++ pins) ++ pl from hp) with hp | hp
      · exact (f2 b hb).2.2.2.2.2 p hp
      · intro z
        have := hpl p hp (.inr (z ▸ hb))
        rw [z] at this
        exact absurd (flt b hb) (by rw [this, hD]; exact Nat.lt_irrefl _)
  have loop : ∀ s₃ : Shared, s₃ = { s₂ with heap := h₁, toks := s₂.toks + ([] : List (Str × Value)).length } ->
      codeAny (model X.prog X.w) X.A (.compLoop (.ListComp elt [⟨tg, iter, ifs, 0⟩] scope pos) 0 (.ref it) (.ref D) (compEnvC scope (clGo X.env.cells scope.names []) C X.env)) (compPost (model X.prog X.w) X.A X.xe none (EP X pins σ Q) (.ref D) C) s₃ := by
    rintro s₃ rfl
    refine compLoop_gen (fun n s' => ∃ i ys its k σ1 H', Inv (cxc X scope C (own ++ cap.map (·.1)) s₂ H2 fp (X.pn ++ pins)) [(D, { cls := .type "list", data := .seq (List.toArray its) k })] (σ1 ++ cap.map fun p => (σ[p.2]?).getD none) H' s' /\ σ1.length = own.length /\ Vals ys its /\ tn i s'.heap /\ (∀ b ∈ fp, H' b = none) /\ W i n ys H') ?_ m0
      ⟨0, [], [], 0, _, H2, I0, by simp, .nil, T.keep _ _ _ st2 fun b hb o e => old b o e, fun b hb => (f2 b hb).1, w0⟩
    rintro n s' ⟨i, ys, its, k, σ1, H', J1, hσ, rv, st1, fr1, w1⟩
    obtain ⟨hsz, ⟨stop, qn⟩ | ⟨go, N, hN, step⟩⟩ := turn i n ys H' w1
    · refine thn (T.done (cxc X scope C (own ++ cap.map (·.1)) s₂ H2 fp (X.pn ++ pins)) rfl rfl rfl hc i _ s' _ H' (fun _ _ => False) J1 (stat (by intro p hp _; rw [List.mem_singleton.mp hp]) fr1) st1 stop) fun r s4 ⟨hr, I4⟩ => ?_
      subst hr
      obtain ⟨m4, hn4, _⟩ := I4.loc
      refine ⟨m4, hn4, fun h' sb => ?_⟩
      obtain ⟨pD1, pD2, pD3, pD4, pD5⟩ := I4.pin (D, _) (List.mem_append_right _ List.mem_cons_self)
      have u := un_done (o := .lst ys) I4.base hDle hCle sb pD2
      refine ⟨.ref D, upd H' D (.lst ys), I2.call' (s' := { s4 with heap := h' }) (ch := fp) I4.os u ?_ I4.bare fun b hb => ?_, rfl, qn D pD2⟩
      · intro b ob e
        by_cases hb : b = D
        · subst hb
          rw [upd_same] at e; cases e
          exact ⟨hsz, its, k, rv, (sb.2 _ pD3).trans pD1⟩
        · rw [upd_ne hb] at e
          refine (I4.hok b ob e).stay (fun c v hc' q => (sb.2 c ?_).trans q) (fun c q => by rw [upd_ne (ne_of_none q pD2)]; exact q) fun c xs q => by rw [upd_ne (ne_of_none q pD2)]; exact q
          have hCn : H' C = none := I4.free
          rcases hc' with z | z
          · rw [z]; exact ne_of_none e hCn
          · exact ne_of_none z hCn
      · obtain ⟨q1, q2, q3, q4, q5, q6⟩ := f2 b hb
        exact ⟨q4, q2, q5, q6⟩
    · refine thn (T.item (cxc X scope C (own ++ cap.map (·.1)) s₂ H2 fp (X.pn ++ pins)) rfl rfl rfl hc i _ s' _ H' (fun _ _ => False) J1 (stat (by intro p hp _; rw [List.mem_singleton.mp hp]) fr1) st1 go) fun r s4 ⟨u, hr, h4⟩ => ?_
      subst hr
      refine thn h4 fun _ s5 ⟨x, H5, I5, r5, y5, st5, fr5⟩ => ?_
      have I5' := I5.pinned (stat (by intro p hp _; rw [List.mem_singleton.mp hp]) fr5) (T.obj _ _ st5)
      refine thn (hG _ s5 _ H5 x u _ I5' r5 (step x H5 y5 σ1 hσ)) fun _ s6 ⟨σ6, H6, I6, ⟨σ1', l6, e6⟩, q6⟩ => ?_
      subst e6
      refine thn (hT _ s6 _ H6 _ I6 q6) fun ok s7 ⟨H7, I7, q7⟩ => ?_
      have again : ∀ {s8 : Shared} {H8 : Hp} {ys8 : List V} {its8 : List Value} {k8 : Nat}, Inv (cxc X scope C (own ++ cap.map (·.1)) s₂ H2 fp (X.pn ++ pins)) ([(D, { cls := .type "list", data := .seq (List.toArray its8) k8 })] ++ pinsAt fp s5.heap) (σ1' ++ cap.map fun p => (σ[p.2]?).getD none) H8 s8 -> Vals ys8 its8 -> N ys8 H8 ->
          ∃ m, m < n /\ ∃ i ys its k σ1 H', Inv (cxc X scope C (own ++ cap.map (·.1)) s₂ H2 fp (X.pn ++ pins)) [(D, { cls := .type "list", data := .seq (List.toArray its) k })] (σ1 ++ cap.map fun p => (σ[p.2]?).getD none) H' s8 /\ σ1.length = own.length /\ Vals ys its /\ tn i s8.heap /\ (∀ b ∈ fp, H' b = none) /\ W i m ys H' := by
        intro s8 H8 ys8 its8 k8 I8 rv8 n8
        obtain ⟨m', hm, w8⟩ := hN ys8 H8 n8
        refine ⟨m', hm, i + 1, ys8, its8, k8, σ1', H8, I8.unpinned, l6, rv8, T.keep _ _ _ st5 fun b hb o e => (I8.pin (b, o) (List.mem_append_right _ (List.mem_append_right _ (mem_pinsAt hb e)))).1, fun b hb => ?_, w8⟩
        obtain ⟨o, e, d⟩ := T.obj _ _ st5 b hb
        exact (I8.pin (b, o) (List.mem_append_right _ (List.mem_append_right _ (mem_pinsAt hb e)))).2.1
      cases ok with
      | false => exact again I7 rv q7
      | true =>
        refine thn (hE _ s7 _ H7 _ I7 q7) fun y s8 ⟨v8, H8, I8, r8, q8⟩ => ?_
        obtain ⟨pD1, pD2, pD3, pD4, pD5⟩ := I8.pin (D, _) (List.mem_append_right _ List.mem_cons_self)
        have hsz' : its.toArray.size <= sizeLine := by rw [List.size_toArray, <- rv.length]; exact hsz
        refine wpAny_list_append_plain (hsz := hsz') (items := its.toArray) ⟨k, pD1⟩ fun h9 pl9 sb9 => ?_
        obtain ⟨k9, e9⟩ := pl9
        have ea : its.toArray.push y = (its ++ [y]).toArray := by simp
        rw [ea] at e9
        have I8' : Inv (cxc X scope C (own ++ cap.map (·.1)) s₂ H2 fp (X.pn ++ pins)) (pinsAt fp s5.heap) (σ1' ++ cap.map fun p => (σ[p.2]?).getD none) H8 s8 := I8.pins_of fun p hp => I8.pin p (List.mem_append_right _ (List.mem_append_right _ hp))
        have fD : FpOk (cxc X scope C (own ++ cap.map (·.1)) s₂ H2 fp (X.pn ++ pins)) (pinsAt fp s5.heap) H8 D := by
          refine ⟨pD2, pD3, pD4, .inr hDle, fun x c e z => ?_, fun p hp z => ?_⟩
          · exact absurd (celt x c e) (by rw [z, hD]; exact Nat.lt_irrefl _)
          · rcases List.mem_append.mp (show p ∈ (X.pn ++ pins) ++ _ from hp) with hp | hp
            · exact absurd (pnl p hp) (by rw [z, hD]; exact Nat.lt_irrefl _)
            · exact absurd (flt p.1 (of_pinsAt hp).1) (by rw [z, hD]; exact Nat.lt_irrefl _)
        have I9 : Inv (cxc X scope C (own ++ cap.map (·.1)) s₂ H2 fp (X.pn ++ pins)) (pinsAt fp s5.heap) (σ1' ++ cap.map fun p => (σ[p.2]?).getD none) H8 { s8 with heap := h9 } := turnedN (t' := s8.toks) (ch := [D]) I8' (fun b o hb e => (sb9.2 b fun z => hb (by simp [z])).trans e) fun b hb => by rw [List.mem_singleton.mp hb]; exact fD
        have I10 : Inv (cxc X scope C (own ++ cap.map (·.1)) s₂ H2 fp (X.pn ++ pins)) ([(D, { cls := .type "list", data := .seq (its ++ [y]).toArray k9 })] ++ pinsAt fp s5.heap) (σ1' ++ cap.map fun p => (σ[p.2]?).getD none) H8 { s8 with heap := h9 } := I9.pins_of fun p hp => by
          rcases List.mem_append.mp hp with hp | hp
          · rw [List.mem_singleton.mp hp]
            exact ⟨e9, pD2, pD3, pD4, fun v z => by cases z⟩
          · exact I9.pin p (List.mem_append_right _ hp)
        exact again (s8 := { s8 with heap := h9 }) I10 (rv.append (.cons r8 .nil)) q8
  subst hD
  exact codeAny_compStart_list (loop _ rfl) (T.self _ 0 _ _ _ (T.keep _ _ _ st2 fun b hb o e => old b o e) (loop _ rfl))
theorem ps_lcset {X : Cx} {i : Nat} {y : Str} {py spos : Pos} {elt tg iter : Expr} {ifs : List Expr} {scope : Scope} {pos : Pos} {own : List Str} {cap : List (Str × Nat)} {wi : TI} {g : TG} {tc : TT} {te : TE} (hc : X.calm = true) (S : CompScope X scope own cap) (hi : PI X tg iter wi)
    (hin : ∀ C s₀ H₀ fp pn, PG (cxc X scope C (own ++ cap.map (·.1)) s₀ H₀ fp pn) tg g /\ PIfs (cxc X scope C (own ++ cap.map (·.1)) s₀ H₀ fp pn) ifs tc /\ PE (cxc X scope C (own ++ cap.map (·.1)) s₀ H₀ fp pn) elt te)
    (hN : X.N.Nodup) (hiy : X.N[i]? = some y) (hy : Loc X.env.scope y) (hsw : swapsWith (.ListComp elt [⟨tg, iter, ifs, 0⟩] scope pos) (some (.Name y py)) spos.line X.env = pure true)
    (hs : ∀ x, foldedSetIterable iter X.env x = pure x := by intro _; rfl) (hfn : X.fn y = true ∨ X.env.scope.names.lookup y = some .local := by first | exact .inl rfl | exact .inr rfl | assumption) :
    PS X (.Assign [.Name y py] (.ListComp elt [⟨tg, iter, ifs, 0⟩] scope pos) spos) (tAsg (tComp wi own cap g tc te) (gName i)) := by
  intro pins s σ H Dn I h
  rw [exec_Assign_Name_used _ _ _ _ hsw]
  refine wpAny_bind (wpAny_standAt (wpAny_bind ?_))
  show wpAny _ X.A (do let _ <- comprehension (.ListComp elt [⟨tg, iter, ifs, 0⟩] scope pos) scope X.env _ (newList []) false (eval iter X.env) (some (assign (.Name y py) X.env))) _ _ s
  have hfr : ∀ y ∈ scope.names, y.2 = .free -> ∃ c, X.env.cells.lookup y.1 = some c := fun y hy hk => I.ok.has y.1 (S.frees y hy hk)
  refine wpAny_bind (wpAny_mono (wpAny_comprehension_free (use := some (assign (.Name y py) X.env)) (Q := fun _ s' => SP X pins Dn .next s') rfl hs (closure_of hfr) S.kind S.names (thn (hi pins s σ H _ I h) fun xv s₁ h₁ => thn h₁ fun it s₂ h₂ => ?_)) (fun _ s' hq => wpAny_pure (wpAny_pure hq)) fun _ _ e => e)
  obtain ⟨it, fp, tn, J, H2, rfl, I2, T, st2, f2, W, ⟨m0, w0⟩, turn⟩ := h₂
  refine wpAny_newObj_type (wpAny_newFunctionEnv S.nocell (by intro y hy; simp at hy) (fun h₁ hns₁ hsb₁ => ?_) S.kind)
  dsimp only at hns₁ hsb₁ ⊢
  generalize hH3 : s₂.heap.push { cls := .type "list", dict := none, data := .seq ([] : List Value).toArray } = h3 at hns₁ hsb₁ ⊢
  have hC : h3.objs.size = s₂.heap.objs.size + 1 := by rw [<- hH3, Heap.size_push]
  have flt : ∀ b ∈ fp, b < s₂.heap.objs.size := fun b hb => let ⟨o, e, _⟩ := T.obj _ _ st2 b hb; Heap.lt_size e
  have old : ∀ b o, s₂.heap.get? b = some o -> h₁.get? b = some o := fun b o e => hsb₁.extBut b o (by rw [hC]; exact Nat.ne_of_lt (Nat.lt_succ_of_lt (Heap.lt_size e))) (Heap.get?_push_of_some _ (hH3 ▸ Heap.get?_push_of_some _ e))
  have hDC : s₂.heap.objs.size ≠ h3.objs.size := by rw [hC]; exact Nat.ne_of_lt (Nat.lt_succ_self _)
  have hacc : h₁.get? s₂.heap.objs.size = some { cls := .type "list", data := .seq ([] : List Value).toArray } := hsb₁.extBut _ _ hDC (Heap.get?_push_of_some _ (hH3 ▸ Heap.get?_push_size _ rfl))
  generalize hD : s₂.heap.objs.size = D at hacc hDC
  have hCle : s₂.heap.objs.size <= h3.objs.size := by rw [hC]; exact Nat.le_succ _
  generalize hCC : h3.objs.size = C at *
  have ok : (cxc X scope C (own ++ cap.map (·.1)) s₂ H2 fp (X.pn ++ pins)).Ok := comp_ok S I2 hCle f2 flt
  have sub : ∀ x c, (clGo X.env.cells scope.names []).lookup x = some c -> X.env.cells.lookup x = some c := fun x c => clGo_sub _ _ x c hfr (fun x c e => by simp at e)
  obtain ⟨hG, hT, hE⟩ := hin C s₂ H2 fp (X.pn ++ pins)
  have fl : ∀ {α : Type} {t : Sem α} {Q : α -> Shared -> Prop} {E : Value -> Shared -> Prop} {s : Shared}, wpAny (model X.prog X.w) X.A t Q (fun _ _ => False) s -> wpAny (model X.prog X.w) X.A t Q E s := fun h => wpAny_mono h (fun _ _ q => q) fun _ _ f => f.elim
  have dn : D ∉ frs X.stack := fun z => by
    rcases List.mem_cons.mp (I2.stkSub D z) with q | q
    · exact absurd I2.lt (by rw [<- q, hD]; exact Nat.lt_irrefl _)
    · exact I2.nofs (Nat.le_of_eq hD) q
  have pnl : ∀ p ∈ X.pn ++ pins, p.1 < s₂.heap.objs.size := fun p hp => Heap.lt_size (I2.pin p hp).1
  have celt : ∀ x c, (clGo X.env.cells scope.names []).lookup x = some c -> c < s₂.heap.objs.size := fun x c e => let ⟨v, q⟩ := I2.cell x c (sub x c e); q.lt
  have hDle : s₂.heap.objs.size <= D := Nat.le_of_eq hD
  have I0 : Inv (cxc X scope C (own ++ cap.map (·.1)) s₂ H2 fp (X.pn ++ pins)) [(D, { cls := .type "list", data := .seq ([] : List Value).toArray })] (List.replicate own.length none ++ cap.map fun p => (σ[p.2]?).getD none) H2 { s₂ with heap := h₁, toks := s₂.toks + ([] : List (Str × Value)).length } := by
    refine ⟨ok, rfl, I2.bare, Un.kept old, ⟨_, hns₁, fun i x v e1 e2 e3 => ?_⟩, fun x c e => ?_, I2.hok.fresh hCle, fun x c e => I2.freeC x c (sub x c e), fun p hp => ?_, I2.hok.kept old, ?_⟩
    · by_cases hi : i < own.length
      · rw [List.getElem?_append_left (by simpa using hi), List.getElem?_replicate] at e2
        rw [if_pos hi] at e2
        cases e2
      · have e1 : (own ++ cap.map (·.1))[i]? = some x := e1
        rw [List.getElem?_append_right (by omega), List.getElem?_map] at e1
        rw [List.getElem?_append_right (by simpa using hi), List.length_replicate, List.getElem?_map] at e2
        cases q : cap[i - own.length]? with
        | none => rw [q] at e1; cases e1
        | some p =>
          rw [q] at e1 e2
          have e1 : p.1 = x := Option.some.inj e1
          have e2 : (σ[p.2]?).getD none = some v := Option.some.inj e2
          obtain ⟨c1, c2⟩ := S.caps p (List.mem_of_getElem? q)
          have e2' : σ[p.2]? = some (some v) := by
            cases q2 : σ[p.2]? with
            | none => rw [q2] at e2; cases e2
            | some w => rw [q2] at e2; rw [show w = some v from e2]
          have hk := S.frees (p.1, .free) (mem_of_lookup' c1) rfl
          obtain ⟨m, hn, hl⟩ := I2.loc
          obtain ⟨u, ru, lk⟩ := hl p.2 p.1 v c2 e2' (.inr hk)
          refine ⟨u, ru, .inr ?_⟩
          rcases lk with ⟨k1, _⟩ | ⟨_, c, ec, hcell⟩
          · rcases hk with z | z
            · rw [k1] at z; cases z
            · rw [k1] at z; cases z
          · subst e1
            refine ⟨relabel_free (env := X.env) c1, ?_⟩
            obtain ⟨c', ec'⟩ := Option.isSome_iff_exists.mp (clGo_has (cells := X.env.cells) scope.names [] p.1 (mem_of_lookup' c1))
            have z := sub _ _ ec'
            rw [ec] at z; cases z
            obtain ⟨o, ho, hd⟩ := hcell
            exact ⟨c, ec', o, old c o ho, hd⟩
    · obtain ⟨v, o, ho, hd⟩ := I2.cell x c (sub x c e)
      exact ⟨v, o, old c o ho, hd⟩
    · rcases List.mem_append.mp (show p ∈ (X.pn ++ pins) ++ [(D, _)] from hp) with hp | hp
      · obtain ⟨q1, q2, q3, q4, q5⟩ := I2.pin p hp
        refine ⟨old _ _ q1, q2, Nat.ne_of_lt (Nat.lt_of_lt_of_le (Heap.lt_size q1) hCle), fun z => ?_, q5⟩
        rcases List.mem_cons.mp (I2.stkSub p.1 z) with q | q
        · exact q3 q
        · exact q4 q
      · rw [List.mem_singleton.mp hp]
        exact ⟨hacc, I2.hok.fresh hDle, hDC, dn, fun v z => by cases z⟩
    · show (List.replicate own.length none ++ cap.map _).length = (own ++ cap.map _).length
      simp
  have stat : ∀ {H' : Hp} {pl : List (Addr × Obj)}, (∀ p ∈ pl, p.1 = D ∨ p.1 ∈ fp -> p.1 = D) -> (∀ b ∈ fp, H' b = none) -> ∀ b ∈ fp, FpOk (cxc X scope C (own ++ cap.map (·.1)) s₂ H2 fp (X.pn ++ pins)) pl H' b := by
    intro H' pl hpl hn b hb
    refine ⟨hn b hb, Nat.ne_of_lt (Nat.lt_of_lt_of_le (flt b hb) hCle), fun z => ?_, .inl hb, fun x c e => (f2 b hb).2.2.2.2.1 x c (sub x c e), fun p hp => ?_⟩
    · rcases List.mem_cons.mp (I2.stkSub b z) with q | q
      · exact (f2 b hb).2.1 q
      · exact (f2 b hb).2.2.1 q
    · rcases List.mem_append.mp (show p ∈ (X.pn ++ pins) ++ pl from hp) with hp | hp
      · exact (f2 b hb).2.2.2.2.2 p hp
      · intro z
        have := hpl p hp (.inr (z ▸ hb))
        rw [z] at this
        exact absurd (flt b hb) (by rw [this, hD]; exact Nat.lt_irrefl _)
  have loop : ∀ s₃ : Shared, s₃ = { s₂ with heap := h₁, toks := s₂.toks + ([] : List (Str × Value)).length } ->
      codeAny (model X.prog X.w) X.A (.compLoop (.ListComp elt [⟨tg, iter, ifs, 0⟩] scope pos) 0 (.ref it) (.ref D) (compEnvC scope (clGo X.env.cells scope.names []) C X.env)) (compPost (model X.prog X.w) X.A X.xe (some (assign (.Name y py) X.env)) (fun _ s' => SP X pins Dn .next s') (.ref D) C) s₃ := by
    rintro s₃ rfl
    refine compLoop_gen (fun n s' => ∃ i ys its k σ1 H', Inv (cxc X scope C (own ++ cap.map (·.1)) s₂ H2 fp (X.pn ++ pins)) [(D, { cls := .type "list", data := .seq (List.toArray its) k })] (σ1 ++ cap.map fun p => (σ[p.2]?).getD none) H' s' /\ σ1.length = own.length /\ Vals ys its /\ tn i s'.heap /\ (∀ b ∈ fp, H' b = none) /\ W i n ys H') ?_ m0
      ⟨0, [], [], 0, _, H2, I0, by simp, .nil, T.keep _ _ _ st2 fun b hb o e => old b o e, fun b hb => (f2 b hb).1, w0⟩
    rintro n s' ⟨i, ys, its, k, σ1, H', J1, hσ, rv, st1, fr1, w1⟩
    obtain ⟨hsz, ⟨stop, qn⟩ | ⟨go, N, hN, step⟩⟩ := turn i n ys H' w1
    · refine thn (T.done (cxc X scope C (own ++ cap.map (·.1)) s₂ H2 fp (X.pn ++ pins)) rfl rfl rfl hc i _ s' _ H' (fun _ _ => False) J1 (stat (by intro p hp _; rw [List.mem_singleton.mp hp]) fr1) st1 stop) fun r s4 ⟨hr, I4⟩ => ?_
      subst hr
      obtain ⟨m4, hn4, _⟩ := I4.loc
      obtain ⟨pD1, pD2, pD3, pD4, pD5⟩ := I4.pin (D, _) (List.mem_append_right _ List.mem_cons_self)
      have u := un_done (o := .lst ys) I4.base hDle hCle (show Heap.SameBut C s4.heap s4.heap from ⟨rfl, fun _ _ => rfl⟩) pD2
      have hCn : H' C = none := I4.free
      have I5 : Inv X pins σ (upd H' D (.lst ys)) s4 := by
        refine I2.call' (s' := s4) (ch := fp) I4.os u ?_ I4.bare fun b hb => ?_
        · intro b ob e
          by_cases hb : b = D
          · subst hb
            rw [upd_same] at e; cases e
            exact ⟨hsz, its, k, rv, pD1⟩
          · rw [upd_ne hb] at e
            exact (I4.hok b ob e).stay (fun c v hc' q => q) (fun c q => by rw [upd_ne (ne_of_none q pD2)]; exact q) fun c xs q => by rw [upd_ne (ne_of_none q pD2)]; exact q
        · obtain ⟨q1, q2, q3, q4, q5, q6⟩ := f2 b hb
          exact ⟨q4, q2, q5, q6⟩
      show wpAny _ X.A (assign (.Name y py) X.env (.ref D)) _ _ _
      refine wpAny_assign_Name (store_ok2 I5 hN hiy hy (v := .ref D) rfl (fun s5 I6 ⟨a5, sb5, ha5⟩ => ?_) hfn)
      have hCa : C ≠ a5 := by
        rcases ha5 with z | z
        · rw [z]; exact Nat.ne_of_gt (Nat.lt_of_lt_of_le I2.lt hCle)
        · intro e
          obtain ⟨v, q⟩ := I2.cell _ _ z
          exact absurd (Nat.lt_of_lt_of_le q.lt (by rw [<- e]; exact hCle)) (Nat.lt_irrefl _)
      refine ⟨m4, hn4.sameBut sb5 hCa, fun h3 sb3 => ?_⟩
      have hC0 : (upd H' D (.lst ys)) C = none := by rw [upd_ne (Ne.symm hDC)]; exact hCn
      exact ⟨_, _, turnedN (t' := s5.toks) (ch := [C]) I6 (fun b o hb q => (sb3.2 b (fun z => hb (by simp [z]))).trans q) (fun b hb => by rw [List.mem_singleton.mp hb]; exact I2.fpOk hCle hC0), qn D pD2⟩
    · refine thn (T.item (cxc X scope C (own ++ cap.map (·.1)) s₂ H2 fp (X.pn ++ pins)) rfl rfl rfl hc i _ s' _ H' (fun _ _ => False) J1 (stat (by intro p hp _; rw [List.mem_singleton.mp hp]) fr1) st1 go) fun r s4 ⟨u, hr, h4⟩ => ?_
      subst hr
      refine thn h4 fun _ s5 ⟨x, H5, I5, r5, y5, st5, fr5⟩ => ?_
      have I5' := I5.pinned (stat (by intro p hp _; rw [List.mem_singleton.mp hp]) fr5) (T.obj _ _ st5)
      refine thn (hG _ s5 _ H5 x u _ I5' r5 (step x H5 y5 σ1 hσ)) fun _ s6 ⟨σ6, H6, I6, ⟨σ1', l6, e6⟩, q6⟩ => ?_
      subst e6
      refine thn (hT _ s6 _ H6 _ I6 q6) fun ok s7 ⟨H7, I7, q7⟩ => ?_
      have again : ∀ {s8 : Shared} {H8 : Hp} {ys8 : List V} {its8 : List Value} {k8 : Nat}, Inv (cxc X scope C (own ++ cap.map (·.1)) s₂ H2 fp (X.pn ++ pins)) ([(D, { cls := .type "list", data := .seq (List.toArray its8) k8 })] ++ pinsAt fp s5.heap) (σ1' ++ cap.map fun p => (σ[p.2]?).getD none) H8 s8 -> Vals ys8 its8 -> N ys8 H8 ->
          ∃ m, m < n /\ ∃ i ys its k σ1 H', Inv (cxc X scope C (own ++ cap.map (·.1)) s₂ H2 fp (X.pn ++ pins)) [(D, { cls := .type "list", data := .seq (List.toArray its) k })] (σ1 ++ cap.map fun p => (σ[p.2]?).getD none) H' s8 /\ σ1.length = own.length /\ Vals ys its /\ tn i s8.heap /\ (∀ b ∈ fp, H' b = none) /\ W i m ys H' := by
        intro s8 H8 ys8 its8 k8 I8 rv8 n8
        obtain ⟨m', hm, w8⟩ := hN ys8 H8 n8
        refine ⟨m', hm, i + 1, ys8, its8, k8, σ1', H8, I8.unpinned, l6, rv8, T.keep _ _ _ st5 fun b hb o e => (I8.pin (b, o) (List.mem_append_right _ (List.mem_append_right _ (mem_pinsAt hb e)))).1, fun b hb => ?_, w8⟩
        obtain ⟨o, e, d⟩ := T.obj _ _ st5 b hb
        exact (I8.pin (b, o) (List.mem_append_right _ (List.mem_append_right _ (mem_pinsAt hb e)))).2.1
      cases ok with
      | false => exact again I7 rv q7
      | true =>
        refine thn (hE _ s7 _ H7 _ I7 q7) fun y s8 ⟨v8, H8, I8, r8, q8⟩ => ?_
        obtain ⟨pD1, pD2, pD3, pD4, pD5⟩ := I8.pin (D, _) (List.mem_append_right _ List.mem_cons_self)
        have hsz' : its.toArray.size <= sizeLine := by rw [List.size_toArray, <- rv.length]; exact hsz
        refine wpAny_list_append_plain (hsz := hsz') (items := its.toArray) ⟨k, pD1⟩ fun h9 pl9 sb9 => ?_
        obtain ⟨k9, e9⟩ := pl9
        have ea : its.toArray.push y = (its ++ [y]).toArray := by simp
        rw [ea] at e9
        have I8' : Inv (cxc X scope C (own ++ cap.map (·.1)) s₂ H2 fp (X.pn ++ pins)) (pinsAt fp s5.heap) (σ1' ++ cap.map fun p => (σ[p.2]?).getD none) H8 s8 := I8.pins_of fun p hp => I8.pin p (List.mem_append_right _ (List.mem_append_right _ hp))
        have fD : FpOk (cxc X scope C (own ++ cap.map (·.1)) s₂ H2 fp (X.pn ++ pins)) (pinsAt fp s5.heap) H8 D := by
          refine ⟨pD2, pD3, pD4, .inr hDle, fun x c e z => ?_, fun p hp z => ?_⟩
          · exact absurd (celt x c e) (by rw [z, hD]; exact Nat.lt_irrefl _)
          · rcases List.mem_append.mp (show p ∈ (X.pn ++ pins) ++ _ from hp) with hp | hp
            · exact absurd (pnl p hp) (by rw [z, hD]; exact Nat.lt_irrefl _)
            · exact absurd (flt p.1 (of_pinsAt hp).1) (by rw [z, hD]; exact Nat.lt_irrefl _)
        have I9 : Inv (cxc X scope C (own ++ cap.map (·.1)) s₂ H2 fp (X.pn ++ pins)) (pinsAt fp s5.heap) (σ1' ++ cap.map fun p => (σ[p.2]?).getD none) H8 { s8 with heap := h9 } := turnedN (t' := s8.toks) (ch := [D]) I8' (fun b o hb e => (sb9.2 b fun z => hb (by simp [z])).trans e) fun b hb => by rw [List.mem_singleton.mp hb]; exact fD
        have I10 : Inv (cxc X scope C (own ++ cap.map (·.1)) s₂ H2 fp (X.pn ++ pins)) ([(D, { cls := .type "list", data := .seq (its ++ [y]).toArray k9 })] ++ pinsAt fp s5.heap) (σ1' ++ cap.map fun p => (σ[p.2]?).getD none) H8 { s8 with heap := h9 } := I9.pins_of fun p hp => by
          rcases List.mem_append.mp hp with hp | hp
          · rw [List.mem_singleton.mp hp]
            exact ⟨e9, pD2, pD3, pD4, fun v z => by cases z⟩
          · exact I9.pin p (List.mem_append_right _ hp)
        exact again (s8 := { s8 with heap := h9 }) I10 (rv.append (.cons r8 .nil)) q8
  subst hD
  exact codeAny_compStart_list (loop _ rfl) (T.self _ 0 _ _ _ (T.keep _ _ _ st2 fun b hb o e => old b o e) (loop _ rfl))
end L3
namespace L2
open PySem PySem.Spec PyProof.Rows
section
variable {κ : Type} [DecidableEq κ]
def valV (kvs : List (κ × V)) (k : κ) : Option V := (kvs.find? fun kv => decide (kv.1 = k)).map (·.2)
def putK (kvs : List (κ × V)) (k : κ) (v : V) : List (κ × V) :=
  if (kvs.any fun kv => decide (kv.1 = k)) = true then kvs.map (fun kv => if kv.1 = k then (kv.1, v) else kv) else kvs ++ [(k, v)]
theorem valV_pos {p : κ × V} {r : List (κ × V)} {k : κ} (e : p.1 = k) : valV (p :: r) k = some p.2 := by simp [valV, List.find?_cons, e]
theorem valV_neg {p : κ × V} {r : List (κ × V)} {k : κ} (e : ¬ p.1 = k) : valV (p :: r) k = valV r k := by simp [valV, List.find?_cons, e]
theorem length_putK (kvs : List (κ × V)) (k : κ) (v : V) : (putK kvs k v).length <= kvs.length + 1 := by
  unfold putK
  split
  · rw [List.length_map]; omega
  · rw [List.length_append, List.length_cons, List.length_nil]; omega
theorem RelO.isSome_eq {o : Option V} {u : Option Value} (r : RelO o u) : o.isSome = u.isSome := by
  cases o with
  | none => cases u with
    | none => rfl
    | some _ => exact (show False from r).elim
  | some _ => cases u with
    | none => exact (show False from r).elim
    | some _ => rfl
theorem KV.val {kvs : List (κ × V)} {vs : List (κ × Value)} (r : KV kvs vs) (k : κ) : RelO (valV kvs k) (valueAt vs k) := by
  unfold KV at r
  induction r with
  | nil => exact True.intro
  | @cons p q ps qs h t ih =>
    obtain ⟨h1, h2⟩ := h
    by_cases e : p.1 = k
    · have e' : q.1 = k := h1.symm.trans e
      have b : valueAt (q :: qs) k = some q.2 := by simp [valueAt, List.find?_cons, e']
      rw [valV_pos e, b]; exact h2
    · have e' : ¬ q.1 = k := fun z => e (h1.trans z)
      have b : valueAt (q :: qs) k = valueAt qs k := by simp [valueAt, List.find?_cons, e']
      rw [valV_neg e, b]; exact ih
theorem KV.any {kvs : List (κ × V)} {vs : List (κ × Value)} (r : KV kvs vs) (k : κ) : (kvs.any fun kv => decide (kv.1 = k)) = vs.any fun kv => decide (kv.1 = k) := by
  unfold KV at r
  induction r with
  | nil => rfl
  | cons h t ih => rw [List.any_cons, List.any_cons, ih, h.1]
theorem KV.repl {kvs : List (κ × V)} {vs : List (κ × Value)} (r : KV kvs vs) (k : κ) {y : V} {u : Value} (ry : RelV y u) :
    KV (kvs.map fun kv => if kv.1 = k then (kv.1, y) else kv) (vs.map fun kv => if kv.1 = k then (kv.1, u) else kv) := by
  unfold KV at r ⊢
  induction r with
  | nil => exact .nil
  | @cons p q ps qs h t ih =>
    rw [List.map_cons, List.map_cons]
    refine .cons ?_ ih
    obtain ⟨h1, h2⟩ := h
    by_cases e : p.1 = k
    · rw [if_pos e, if_pos (h1.symm.trans e)]; exact ⟨h1, ry⟩
    · rw [if_neg e, if_neg (fun z => e (h1.trans z))]; exact ⟨h1, h2⟩
theorem KV.put {kvs : List (κ × V)} {vs : List (κ × Value)} (r : KV kvs vs) (k : κ) {y : V} {u : Value} (ry : RelV y u) : KV (putK kvs k y) (stored vs k u) := by
  unfold putK stored
  rw [r.any k]
  by_cases e : (vs.any fun kv => decide (kv.1 = k)) = true
  · rw [if_pos e, if_pos e]; exact r.repl k ry
  · rw [if_neg e, if_neg e]; exact Paired.snoc r ⟨rfl, ry⟩
theorem KV.length {kvs : List (κ × V)} {vs : List (κ × Value)} (r : KV kvs vs) : kvs.length = vs.length := Paired.length r
end
theorem kV_is {P : Program} {w : World} {k : Key} {u : Value} (r : RelV (kV k) u) : (mixKind P w).is k u = true := by
  cases k with
  | inl i => obtain ⟨t, e⟩ := (show ∃ t, u = Value.int i t from r); subst e; exact mixKind_int P w i t
  | inr x => obtain ⟨t, e⟩ := (show ∃ t, u = Value.str x t from r); subst e; exact mixKind_str P w x t
section
variable {P : Program} {w : World} {H : Hp} {h : Heap} {a : Addr}
end
section
variable {X : Cx} {pins : List (Addr × Obj)} {σ : St} {H : Hp} {s : Shared} {a : Addr} {y v : V} {u r : Value} {o : Option V} {A : Around} {E : Value -> Shared -> Prop}
theorem Inv.big (I : Inv X pins σ H s) : sysModules < s.heap.objs.size := by
  have h : mainGlobals < s.heap.objs.size := (I.mod.glob.keeps I.bk).lt
  exact Nat.lt_trans (by decide) h
theorem d_write {h' : Heap} {t' : Nat} {ob : HO} (I : Inv X pins σ H s) (mu : Mut (H a)) (hs : Heap.SameBut a s.heap h') (he : ∃ q, h'.get? a = some q) (new : ObjOk X.prog X.w (upd H a ob) h' a ob) :
    Inv X pins σ (upd H a ob) { s with heap := h', toks := t' } :=
  I.write (x := a) (e := a) mu (.inl rfl) (fun b q hb z => (hs.2 b hb).trans z) he new
end
section
variable {X : Cx} {pins : List (Addr × Obj)} {σ : St} {H : Hp} {s : Shared} {a : Addr} {kvs : List (Key × V)} {k : Key} {u : Value} {A : Around} {E : Value -> Shared -> Prop}
end
section
variable {X : Cx} {o i e value : Expr} {pos pos' tpos : Pos} {td ty tv : TE}
end
section
variable {X : Cx} {pos : Pos}
end
structure M1 (X : Cx) (o : Expr) (m : Str) (apos : Pos) (e : Expr) (cpos : Pos) : Prop where
  base : attributeBase o m X.env (eval o X.env) = eval o X.env
  few : ((backTo cpos (starEach [e] X.env)).all (fun x => !x.1) && (backToKw cpos (keywordEach [] X.env)).all (fun x => x.1.isSome)
    && decide (([e] : List Expr).length + ([] : List Keyword).length + (if ([] : List Keyword).isEmpty then 0 else 1) < 30)) = true
  line : (apos.endLine == cpos.line) = true
  trees : backTo cpos (starEach [e] X.env) = [(false, eval e X.env)]
structure M2 (X : Cx) (o : Expr) (m : Str) (apos : Pos) (e f : Expr) (cpos : Pos) : Prop where
  base : attributeBase o m X.env (eval o X.env) = eval o X.env
  few : ((backTo cpos (starEach [e, f] X.env)).all (fun x => !x.1) && (backToKw cpos (keywordEach [] X.env)).all (fun x => x.1.isSome)
    && decide (([e, f] : List Expr).length + ([] : List Keyword).length + (if ([] : List Keyword).isEmpty then 0 else 1) < 30)) = true
  line : (apos.endLine == cpos.line) = true
  trees : backTo cpos (starEach [e, f] X.env) = [(false, eval e X.env), (false, eval f X.env)]
section
variable {X : Cx} {pins : List (Addr × Obj)} {σ : St} {H : Hp} {s : Shared} {a : Addr} {y d : V} {u r : Value} {o : Option V} {A : Around} {E : Value -> Shared -> Prop}
end
section
variable {X : Cx} {o e f : Expr} {apos cpos : Pos} {td ty tx : TE}
end
section
variable {X : Cx} {pins : List (Addr × Obj)} {σ : St} {H : Hp} {s : Shared} {a : Addr} {kvs : List (Key × V)} {A : Around} {E : Value -> Shared -> Prop}
end
section
variable {X : Cx} {pins : List (Addr × Obj)} {σ : St} {H : Hp} {s : Shared} {a : Addr} {y : V} {u : Value} {A : Around} {E : Value -> Shared -> Prop}
end
end L2
namespace L4
open PySem PySem.Spec L2 L3
open PyProof.Rows hiding St
def dxp (w : World) (a : Addr) (o : Obj) (kvs : List (Key × V)) : Heap -> Prop := fun h => h.get? a = some o /\ kvs.length <= sizeLine /\ (a == sysModules) = false /\ ∃ vs, KV kvs vs /\ ∀ P, o.IsDictOf (mixKind P w) vs
def DX (w : World) (a : Addr) (o : Obj) (kvs : List (Key × V)) : HO := .ext (dxp w a o kvs)
theorem pairsP {P P' : Program} {w : World} : ∀ {es : List DictEntry} {vs : List (Key × Value)}, Pairs (mixKind P w) es vs -> Pairs (mixKind P' w) es vs := by
  intro es vs h
  induction h with
  | nil => exact .nil
  | cons => first | exact .cons ‹_› ‹_› | exact .cons ‹_› ‹_› ‹_› | (constructor <;> assumption)
theorem anyP {o : Obj} {P P' : Program} {w : World} {vs : List (Key × Value)} (h : o.IsDictOf (mixKind P w) vs) : o.IsDictOf (mixKind P' w) vs :=
  let ⟨es, ep, h1, h2, h3, h4, h5⟩ := h; ⟨es, ep, h1, h2, h3, pairsP h4, h5⟩
theorem dx_ok {P : Program} {w : World} {h : Heap} {a : Addr} {kvs : List (Key × V)} {vs : List (Key × Value)} (z : kvs.length <= sizeLine) (hd : (a == sysModules) = false) (rel : KV kvs vs) (dd : h.DictOf (mixKind P w) a vs) :
    ∃ o, h.get? a = some o /\ ∀ H, ObjOk P w H h a (DX w a o kvs) := by
  obtain ⟨o, ho, hi⟩ := Heap.dictOf_iff.mp dd
  exact ⟨o, ho, fun H => ⟨⟨ho, z, hd, vs, rel, fun P => anyP hi⟩, ⟨o, ho⟩, fun h1 h2 ⟨e, r⟩ k => ⟨k _ e, r⟩⟩⟩
section
variable {X : Cx} {pins : List (Addr × Obj)} {σ : St} {H : Hp} {s : Shared} {a : Addr} {ob : Obj} {kvs : List (Key × V)} {k : Key} {y v : V} {u r : Value} {A : Around} {E : Value -> Shared -> Prop}
theorem dx_of (I : Inv X pins σ H s) (e : H a = some (DX X.w a ob kvs)) : s.heap.get? a = some ob /\ kvs.length <= sizeLine /\ (a == sysModules) = false /\ ∃ vs, KV kvs vs /\ ob.IsDictOf (mixKind X.prog X.w) vs /\ s.heap.DictOf (mixKind X.prog X.w) a vs := by
  obtain ⟨⟨h1, h2, h3, vs, h4, h5⟩, _⟩ := (show ObjOk X.prog X.w H s.heap a (DX X.w a ob kvs) from I.hok a _ e)
  exact ⟨h1, h2, h3, vs, h4, h5 _, Heap.dictOf_iff.mpr ⟨ob, h1, h5 _⟩⟩
theorem dx_in {Q : Value -> Shared -> Prop} (I : Inv X pins σ H s) (e : H a = some (DX X.w a ob kvs)) (ry : RelV (kV k) u) (h : ∀ s', Inv X pins σ H s' -> Q (.bool (valV kvs k).isSome) s') :
    wpAny (model X.prog X.w) A (compareOp .In u (.ref a)) Q E s := by
  obtain ⟨_, z, hd, vs, rel, _, dd⟩ := dx_of I e
  refine wpAny_in_of (kV_is ry) hd dd.mapOf ?_
  rw [<- (rel.val k).isSome_eq]
  exact h _ (I.tok _)
theorem dx_setItem {Q : Unit -> Shared -> Prop} (I : Inv X pins σ H s) (e : H a = some (DX X.w a ob kvs)) (l : kvs.length < sizeLine) (ry : RelV (kV k) u) (rv : RelV v r)
    (h : ∀ s' ob', Inv X pins σ (upd H a (DX X.w a ob' (putK kvs k v))) s' -> Q () s') : wpAny (model X.prog X.w) A (setItem (.ref a) u r) Q E s := by
  obtain ⟨_, z, hd, vs, rel, _, dd⟩ := dx_of I e
  have hz : vs.length <= sizeLine := by rw [<- rel.length]; exact z
  have hl : (putK kvs k v).length <= sizeLine := by have := length_putK kvs k v; omega
  refine wpAny_setItem_pairs (hsz := hz) (kV_is ry) dd fun h' dd' hs => ?_
  have he : ∃ q, h'.get? a = some q := let ⟨q, _, _, hq, _⟩ := dd'; ⟨q, hq⟩
  obtain ⟨o', ho', new⟩ := dx_ok (P := X.prog) (w := X.w) (a := a) (kvs := putK kvs k v) hl hd (rel.put k rv) dd'
  exact h _ o' (d_write I (by rw [e]; exact True.intro) hs he (new _))
end
def tXNew (P : Program) (w : World) : TE := fun _ H Q => ∀ p ob, H p = none -> Q (.ref p) (upd H p (DX w p ob []))
def tXIn (P : Program) (w : World) (ty td : TE) : TE := fun σ H Q => ty σ H fun y H1 => td σ H1 fun x H2 => ∃ a ob kvs k, x = .ref a /\ H2 a = some (DX w a ob kvs) /\ y = kV k /\ Q (.bl (valV kvs k).isSome) H2
def sXPut (P : Program) (w : World) (td ty tv : TE) : TS := fun D σ H => tv σ H fun v H1 => td σ H1 fun x H2 => ty σ H2 fun y H3 => ∃ a ob kvs k, x = .ref a /\ H3 a = some (DX w a ob kvs) /\ y = kV k /\ kvs.length < sizeLine /\ ∀ ob', D.nx σ (upd H3 a (DX w a ob' (putK kvs k v)))
section
variable {X : Cx} {o i e f value : Expr} {pos pos' tpos apos cpos : Pos} {td ty tv tx : TE}
theorem pe_xnew : PE X (.Dict [] [] pos) (tXNew X.prog X.w) := fun pins s σ H Q I h => by
  obtain ⟨ob, ho, new⟩ := dx_ok (P := X.prog) (w := X.w) (a := s.heap.objs.size) (kvs := []) (Nat.zero_le _) (beq_eq_false_iff_ne.mpr (Ne.symm (Nat.ne_of_lt I.big))) .nil (Heap.DictOf.new (knd := mixKind X.prog X.w) s.heap)
  exact wpAny_Dict_empty ⟨.ref s.heap.objs.size, _, I.laid (a := s.heap.objs.size) (o := DX X.w s.heap.objs.size ob []) (t' := s.toks) (fun _ _ q => Heap.get?_push_of_some _ q) (Nat.le_refl _) (new _), rfl, h _ ob (I.hok.fresh (Nat.le_refl _))⟩
theorem pc_xin (hi : PE X i ty) (ho : PE X o td) : PC X .In i o (tXIn X.prog X.w ty td) := by
  intro pins s σ H Q I h
  refine thn (hi pins s σ H _ I h) fun iv s1 ⟨y, H1, I1, ry, q1⟩ => thn (ho pins s1 σ H1 _ I1 q1) fun u s2 ⟨x, H2, I2, rx, a, ob, kvs, k, ex, g, ey, q2⟩ => ?_
  subst ex ey
  obtain rfl : u = Value.ref a := rx
  exact dx_in I2 g ry fun s3 I3 => ⟨.bl _, H2, I3, rfl, q2⟩
theorem ps_xput (ho : PE X o td) (hi : PE X i ty) (hv : PE X value tv) (hs : swapsWith value (some (.Subscript o i pos')) pos.line X.env = pure false) :
    PS X (.Assign [.Subscript o i pos'] value pos) (sXPut X.prog X.w td ty tv) := by
  intro pins s σ H D I h
  refine wpAny_Assign_Subscript (thn (hv pins s σ H _ I h) fun r s1 ⟨v, H1, I1, rv, q1⟩ => thn (ho pins s1 σ H1 _ I1 q1) fun u s2 ⟨x, H2, I2, rx, q2⟩ => thn (hi pins s2 σ H2 _ I2 q2) fun iv s3 ⟨y, H3, I3, ry, a, ob, kvs, k, ex, g, ey, l, q3⟩ => ?_) hs
  subst ex ey
  obtain rfl : u = Value.ref a := rx
  exact dx_setItem I3 g l ry rv fun s4 ob' I4 => ⟨σ, _, I4, q3 ob'⟩
end
section
variable {X : Cx} {pins : List (Addr × Obj)} {σ : St} {H : Hp} {s : Shared} {a : Addr} {ob : Obj} {kvs : List (Key × V)}
end
inductive PairsAt (P : Program) (w : World) (h : Heap) : List Value -> List (Key × Value) -> Prop
  | nil : PairsAt P w h [] []
  | cons {a : Addr} {r : List Value} {k : Key} {kv v : Value} {kvs : List (Key × Value)} : h.IsTuple a #[kv, v] -> (mixKind P w).is k kv = true -> PairsAt P w h r kvs -> PairsAt P w h (.ref a :: r) ((k, v) :: kvs)
section
variable {prog : Program} {w : World} {A : Around} {s : Shared} {R : Result -> Shared -> Prop}
end
section
variable {prog : Program} {w : World} {A : Around} {E : Value -> Shared -> Prop} {s : Shared}
end
inductive PairsV (K : PySem.W.Frag) (H : Hp) : List V -> List (Key × V) -> Prop
  | nil : PairsV K H [] []
  | cons {a : Addr} {r : List V} {k : Key} {v : V} {kvs : List (Key × V)} : SqT K H a [kV k, v] -> PairsV K H r kvs -> PairsV K H (.ref a :: r) ((k, v) :: kvs)
section
variable {X : Cx} {pins : List (Addr × Obj)} {σ : St} {H : Hp} {s : Shared}
end
section
variable {X : Cx}
end
section
variable {X : Cx} {pins : List (Addr × Obj)} {σ : St} {H : Hp} {s : Shared} {a v : Addr} {ob : Obj} {kvs : List (Key × V)} {cls : String}
end
structure M0 (X : Cx) (o : Expr) (m : Str) (apos cpos : Pos) : Prop where
  base : attributeBase o m X.env (eval o X.env) = eval o X.env
  line : (apos.endLine == cpos.line) = true
section
variable {X : Cx} {o : Expr} {apos cpos : Pos} {td : TE}
end
section
variable {X : Cx} {pins : List (Addr × Obj)} {σ : St} {H : Hp} {s : Shared} {a b : Addr} {oa ob : Obj} {ka kb : List (Key × Int)} {A : Around} {E : Value -> Shared -> Prop}
end
section
variable {X : Cx} {i o : Expr} {ta tb : TE}
end
section
variable {X : Cx} {pins : List (Addr × Obj)} {σ : St} {H : Hp} {s : Shared} {a : Addr} {ob : Obj} {kvs : List (Key × V)}
end
section
variable {X : Cx} {pins : List (Addr × Obj)} {σ : St} {H H' : Hp} {s : Shared} {h' : Heap}
end
end L4
namespace Dv
open PySem PySem.Spec L2 L3 L4
open PyProof.Rows hiding St
structure KW where
  fr : PySem.W.Frag
  w : World
instance : Coe KW PySem.W.Frag := ⟨KW.fr⟩
abbrev _root_.L2.Cx.kw (X : Cx) : KW := ⟨X.K, X.w⟩
inductive D where
  | non | bl (b : Bool) | int (i : Int) | str (x : Str) | lst (xs : List D) | tup (xs : List D) | scr (ns : List Int) | obj (C : Addr) (fs : List Str) (ds : List D)
    | emp
mutual
def Rp (K : KW) (F : Hp) : D -> V -> Prop
  | .non, v => v = .non
  | .bl b, v => v = .bl b
  | .int i, v => v = .int i
  | .str x, v => v = .str x
  | .lst ds, v => ∃ a vs, v = .ref a /\ F a = some (.lst vs) /\ Rps K F ds vs
  | .tup ds, v => ∃ a vs, v = .ref a /\ F a = some (.tup vs) /\ Rps K F ds vs
  | .scr ns, v => ∃ a, v = .ref a /\ SqL K F a (ns.map V.int)
  | .obj C fs ds, v => ∃ a dx vs, v = .ref a /\ F a = some (.ins C dx (fs.zip vs)) /\ fs.length = vs.length /\ Rps K F ds vs
  | .emp, v => ∃ a, v = .ref a /\ F a = some (.dK [])
def Rps (K : KW) (F : Hp) : List D -> List V -> Prop
  | [], vs => vs = []
  | d :: ds, vs => ∃ v r, vs = v :: r /\ Rp K F d v /\ Rps K F ds r
end
mutual
theorem Rp.mono {K : KW} {F F' : Hp} (s : Same F F') : ∀ {d : D} {v : V}, Rp K F d v -> Rp K F' d v
  | .non, _, h => h
  | .bl _, _, h => h
  | .int _, _, h => h
  | .str _, _, h => h
  | .lst _, _, ⟨a, vs, e, q, r⟩ => ⟨a, vs, e, s _ _ q, Rps.mono s r⟩
  | .tup _, _, ⟨a, vs, e, q, r⟩ => ⟨a, vs, e, s _ _ q, Rps.mono s r⟩
  | .scr _, _, ⟨a, e, q⟩ => ⟨a, e, s.seq q⟩
  | .obj _ _ _, _, ⟨a, dx, vs, e, q, l, r⟩ => ⟨a, dx, vs, e, s _ _ q, l, Rps.mono s r⟩
  | .emp, _, ⟨a, e, q⟩ => ⟨a, e, s _ _ q⟩
theorem Rps.mono {K : KW} {F F' : Hp} (s : Same F F') : ∀ {ds : List D} {vs : List V}, Rps K F ds vs -> Rps K F' ds vs
  | [], _, h => h
  | _ :: _, _, ⟨v, r, e, h, t⟩ => ⟨v, r, e, Rp.mono s h, Rps.mono s t⟩
end
section
variable {K : KW} {F F' H H' : Hp}
theorem Rps.length : ∀ {ds : List D} {vs : List V}, Rps K F ds vs -> ds.length = vs.length
  | [], _, h => by cases h; rfl
  | _ :: _, _, ⟨_, _, e, _, t⟩ => by subst e; simp [Rps.length t]
theorem Rps.append : ∀ {ds es : List D} {vs ws : List V}, Rps K F ds vs -> Rps K F es ws -> Rps K F (ds ++ es) (vs ++ ws)
  | [], _, _, _, h, t => by cases h; exact t
  | _ :: _, _, _, _, ⟨v, r, e, h, t⟩, q => by subst e; exact ⟨v, _, rfl, h, Rps.append t q⟩
theorem Rps.get : ∀ {ds : List D} {vs : List V} {i : Nat} {d : D}, Rps K F ds vs -> ds[i]? = some d -> ∃ v, vs[i]? = some v /\ Rp K F d v
  | [], _, _, _, _, e => by simp at e
  | _ :: _, _, 0, _, ⟨v, r, e, h, t⟩, q => by subst e; simp at q; subst q; exact ⟨v, rfl, h⟩
  | _ :: _, _, i + 1, _, ⟨v, r, e, h, t⟩, q => by
    subst e
    obtain ⟨w, h1, h2⟩ := Rps.get (i := i) t (by simpa using q)
    exact ⟨w, by simpa using h1, h2⟩
theorem Rps.get' : ∀ {ds : List D} {vs : List V} {i : Nat} {v : V}, Rps K F ds vs -> vs[i]? = some v -> ∃ d, ds[i]? = some d /\ Rp K F d v := fun {ds vs i v} r e => by
  have hl := r.length
  have hi : i < vs.length := (List.getElem?_eq_some_iff.mp e).1
  have hd : ds[i]? = some ds[i] := List.getElem?_eq_getElem (by omega)
  obtain ⟨w, h1, h2⟩ := r.get hd
  rw [e] at h1; cases h1
  exact ⟨_, hd, h2⟩
theorem Rps.take : ∀ {ds : List D} {vs : List V} (n : Nat), Rps K F ds vs -> Rps K F (ds.take n) (vs.take n)
  | _, _, 0, _ => rfl
  | [], _, _ + 1, h => by cases h; rfl
  | _ :: _, _, n + 1, ⟨v, r, e, h, t⟩ => by subst e; exact ⟨v, _, rfl, h, Rps.take n t⟩
theorem Rps.drop : ∀ {ds : List D} {vs : List V} (n : Nat), Rps K F ds vs -> Rps K F (ds.drop n) (vs.drop n)
  | _, _, 0, r => r
  | [], _, _ + 1, h => by cases h; rfl
  | _ :: _, _, n + 1, ⟨v, r, e, h, t⟩ => by subst e; exact Rps.drop n t
theorem Rps.snoc {ds : List D} {vs : List V} {d : D} {v : V} (r : Rps K F ds vs) (h : Rp K F d v) : Rps K F (ds ++ [d]) (vs ++ [v]) := r.append ⟨v, [], rfl, h, rfl⟩
theorem Rps.ints : ∀ (ns : List Int), Rps K F (ns.map D.int) (ns.map V.int)
  | [] => rfl
  | _ :: ns => ⟨_, _, rfl, rfl, Rps.ints ns⟩
theorem same_upd {a : Addr} {o : HO} (n : H a = none) : Same H (upd H a o) := fun b u e => by rw [upd_ne (ne_of_none e n)]; exact e
theorem same_into {a : Addr} {o : HO} (s : Same F H) (n : H a = none) : Same F (upd H a o) := s.trans (same_upd n)
structure Ext (F H F' H' : Hp) : Prop where
  ff : Same F F'
  hh : Same H H'
  fh : Same F' H'
  nw : ∀ a, F' a ≠ none -> F a ≠ none ∨ H a = none
theorem Ext.refl (s : Same F H) : Ext F H F H := ⟨Same.refl _, Same.refl _, s, fun _ h => .inl h⟩
theorem Ext.trans {F1 H1 F2 H2 : Hp} (x : Ext F H F1 H1) (y : Ext F1 H1 F2 H2) : Ext F H F2 H2 :=
  ⟨x.ff.trans y.ff, x.hh.trans y.hh, y.fh, fun a h => (y.nw a h).elim (x.nw a) fun z => .inr (x.hh.free z)⟩
theorem Ext.new {a : Addr} {o : HO} (s : Same F H) (n : H a = none) : Ext F H F (upd H a o) := ⟨Same.refl _, same_upd n, same_into s n, fun _ h => .inl h⟩
theorem Ext.newF {a : Addr} {o : HO} (s : Same F H) (n : H a = none) : Ext F H (upd F a o) (upd H a o) := by
  refine ⟨same_upd (s.free n), same_upd n, fun b u e => ?_, fun b h => ?_⟩
  · by_cases hb : b = a
    · subst hb; rw [upd_same] at e ⊢; exact e
    · rw [upd_ne hb] at e ⊢; exact s b u e
  · by_cases hb : b = a
    · subst hb; exact .inr n
    · rw [upd_ne hb] at h; exact .inl h
theorem Ext.freeze {a : Addr} {o : HO} (x : Ext F H F' H') (n : H a = none) (n' : F' a = none) (e : H' a = some o) : Ext F H (upd F' a o) H' := by
  refine ⟨x.ff.trans (same_upd n'), x.hh, fun b u q => ?_, fun b h => ?_⟩
  · by_cases hb : b = a
    · subst hb; rw [upd_same] at q; cases q; exact e
    · rw [upd_ne hb] at q; exact x.fh b u q
  · by_cases hb : b = a
    · subst hb; exact .inr n
    · rw [upd_ne hb] at h; exact x.nw b h
def Rq (K : KW) (F H : Hp) (d : D) (v : V) : Prop := Rp K F d v ∨ ∃ a vs ds, d = .lst ds /\ v = .ref a /\ H a = some (.lst vs) /\ Rps K F ds vs
theorem Rq.mono (f : Same F F') (h : Same H H') {d : D} {v : V} (r : Rq K F H d v) : Rq K F' H' d v := by
  rcases r with r | ⟨a, vs, ds, e1, e2, e3, e4⟩
  · exact .inl (r.mono f)
  · exact .inr ⟨a, vs, ds, e1, e2, h _ _ e3, e4.mono f⟩
theorem Rq.lst (s : Same F H) {ds : List D} {v : V} (r : Rq K F H (.lst ds) v) : ∃ a vs, v = .ref a /\ H a = some (.lst vs) /\ Rps K F ds vs := by
  rcases r with ⟨a, vs, e, q, r⟩ | ⟨a, vs, ds', e1, e2, e3, e4⟩
  · exact ⟨a, vs, e, s _ _ q, r⟩
  · cases e1; exact ⟨a, vs, e2, e3, e4⟩
theorem Rq.one {d : D} {v : V} (r : Rq K F H d v) (h : ∀ ds, d ≠ .lst ds) : Rp K F d v := by
  rcases r with r | ⟨a, vs, ds, e1, _⟩
  · exact r
  · exact (h ds e1).elim
theorem Rq.int {i : Int} {v : V} (r : Rq K F H (.int i) v) : v = .int i := r.one fun _ h => by cases h
theorem Rq.bl {i : Bool} {v : V} (r : Rq K F H (.bl i) v) : v = .bl i := r.one fun _ h => by cases h
theorem Rq.str {i : Str} {v : V} (r : Rq K F H (.str i) v) : v = .str i := r.one fun _ h => by cases h
theorem Rq.non {v : V} (r : Rq K F H .non v) : v = .non := r.one fun _ h => by cases h
theorem Rq.tup (s : Same F H) {ds : List D} {v : V} (r : Rq K F H (.tup ds) v) : ∃ a vs, v = .ref a /\ H a = some (.tup vs) /\ Rps K F ds vs := by
  obtain ⟨a, vs, e, q, r⟩ := r.one fun _ h => by cases h
  exact ⟨a, vs, e, s _ _ q, r⟩
theorem Rq.scr (s : Same F H) {ns : List Int} {v : V} (r : Rq K F H (.scr ns) v) : ∃ a, v = .ref a /\ SqL K H a (ns.map V.int) := by
  obtain ⟨a, e, q⟩ := r.one fun _ h => by cases h
  exact ⟨a, e, s.seq q⟩
end
inductive OT where
  | frz (d : D) | lst (ts : List OT) | tup (ts : List OT)
mutual
def RepO (K : KW) (F H : Hp) : OT -> V -> Prop
  | .frz d, v => Rp K F d v
  | .lst ts, v => ∃ a vs, v = .ref a /\ H a = some (.lst vs) /\ RepOs K F H ts vs
  | .tup ts, v => ∃ a vs, v = .ref a /\ H a = some (.tup vs) /\ RepOs K F H ts vs
def RepOs (K : KW) (F H : Hp) : List OT -> List V -> Prop
  | [], vs => vs = []
  | t :: ts, vs => ∃ v r, vs = v :: r /\ RepO K F H t v /\ RepOs K F H ts r
end
def itemsH (H : Hp) (a : Addr) : List V := match H a with
  | some (.lst vs) => vs
  | some (.tup vs) => vs
  | _ => []
mutual
def feetO (H : Hp) : OT -> V -> List Addr
  | .frz _, _ => []
  | .lst ts, v => match v with
    | .ref a => a :: feetOs H ts (itemsH H a)
    | _ => []
  | .tup ts, v => match v with
    | .ref a => a :: feetOs H ts (itemsH H a)
    | _ => []
def feetOs (H : Hp) : List OT -> List V -> List Addr
  | [], _ => []
  | t :: ts, vs => match vs with
    | v :: r => feetO H t v ++ feetOs H ts r
    | [] => []
end
mutual
def OT.erase : OT -> D
  | .frz d => d
  | .lst ts => .lst (erases ts)
  | .tup ts => .tup (erases ts)
def erases : List OT -> List D
  | [] => []
  | t :: ts => t.erase :: erases ts
end
theorem itemsH_lst {H : Hp} {a : Addr} {vs : List V} (h : H a = some (.lst vs)) : itemsH H a = vs := by unfold itemsH; rw [h]
theorem itemsH_tup {H : Hp} {a : Addr} {vs : List V} (h : H a = some (.tup vs)) : itemsH H a = vs := by unfold itemsH; rw [h]
section
variable {K : KW} {F F' H H' : Hp}
mutual
theorem RepO.ext (f : Same F F') (h : Same H H') : ∀ {t : OT} {v : V}, RepO K F H t v -> RepO K F' H' t v /\ feetO H' t v = feetO H t v
  | .frz _, _, r => ⟨Rp.mono f r, rfl⟩
  | .lst ts, _, ⟨a, vs, e, q, r⟩ => by
    subst e
    obtain ⟨r1, r2⟩ := RepOs.ext f h r
    exact ⟨⟨a, vs, rfl, h _ _ q, r1⟩, by simp only [feetO, itemsH_lst q, itemsH_lst (h _ _ q), r2]⟩
  | .tup ts, _, ⟨a, vs, e, q, r⟩ => by
    subst e
    obtain ⟨r1, r2⟩ := RepOs.ext f h r
    exact ⟨⟨a, vs, rfl, h _ _ q, r1⟩, by simp only [feetO, itemsH_tup q, itemsH_tup (h _ _ q), r2]⟩
theorem RepOs.ext (f : Same F F') (h : Same H H') : ∀ {ts : List OT} {vs : List V}, RepOs K F H ts vs -> RepOs K F' H' ts vs /\ feetOs H' ts vs = feetOs H ts vs
  | [], _, r => ⟨r, rfl⟩
  | t :: ts, _, ⟨v, r, e, h1, h2⟩ => by
    subst e
    obtain ⟨a1, a2⟩ := RepO.ext f h h1
    obtain ⟨b1, b2⟩ := RepOs.ext f h h2
    exact ⟨⟨v, r, rfl, a1, b1⟩, by simp only [feetOs, a2, b2]⟩
end
mutual
theorem RepO.other {a : Addr} {o : HO} : ∀ {t : OT} {v : V}, RepO K F H t v -> a ∉ feetO H t v -> RepO K F (upd H a o) t v /\ feetO (upd H a o) t v = feetO H t v
  | .frz _, _, r, _ => ⟨r, rfl⟩
  | .lst ts, _, ⟨b, vs, e, q, r⟩, hn => by
    subst e
    simp only [feetO, itemsH_lst q, List.mem_cons, not_or] at hn
    obtain ⟨r1, r2⟩ := RepOs.other (o := o) r hn.2
    have q' : upd H a o b = some (.lst vs) := by rw [upd_ne (Ne.symm hn.1)]; exact q
    exact ⟨⟨b, vs, rfl, q', r1⟩, by simp only [feetO, itemsH_lst q, itemsH_lst q', r2]⟩
  | .tup ts, _, ⟨b, vs, e, q, r⟩, hn => by
    subst e
    simp only [feetO, itemsH_tup q, List.mem_cons, not_or] at hn
    obtain ⟨r1, r2⟩ := RepOs.other (o := o) r hn.2
    have q' : upd H a o b = some (.tup vs) := by rw [upd_ne (Ne.symm hn.1)]; exact q
    exact ⟨⟨b, vs, rfl, q', r1⟩, by simp only [feetO, itemsH_tup q, itemsH_tup q', r2]⟩
theorem RepOs.other {a : Addr} {o : HO} : ∀ {ts : List OT} {vs : List V}, RepOs K F H ts vs -> a ∉ feetOs H ts vs -> RepOs K F (upd H a o) ts vs /\ feetOs (upd H a o) ts vs = feetOs H ts vs
  | [], _, r, _ => ⟨r, rfl⟩
  | t :: ts, _, ⟨v, r, e, h1, h2⟩, hn => by
    subst e
    simp only [feetOs, List.mem_append, not_or] at hn
    obtain ⟨a1, a2⟩ := RepO.other (o := o) h1 hn.1
    obtain ⟨b1, b2⟩ := RepOs.other (o := o) h2 hn.2
    exact ⟨⟨v, r, rfl, a1, b1⟩, by simp only [feetOs, a2, b2]⟩
end
mutual
theorem RepO.feet {a : Addr} : ∀ {t : OT} {v : V}, RepO K F H t v -> a ∈ feetO H t v -> H a ≠ none
  | .frz _, _, _, h => by simp [feetO] at h
  | .lst ts, _, ⟨b, vs, e, q, r⟩, h => by
    subst e
    simp only [feetO, itemsH_lst q, List.mem_cons] at h
    rcases h with rfl | h
    · rw [q]; simp
    · exact RepOs.feet r h
  | .tup ts, _, ⟨b, vs, e, q, r⟩, h => by
    subst e
    simp only [feetO, itemsH_tup q, List.mem_cons] at h
    rcases h with rfl | h
    · rw [q]; simp
    · exact RepOs.feet r h
theorem RepOs.feet {a : Addr} : ∀ {ts : List OT} {vs : List V}, RepOs K F H ts vs -> a ∈ feetOs H ts vs -> H a ≠ none
  | [], _, _, h => by simp [feetOs] at h
  | t :: ts, _, ⟨v, r, e, h1, h2⟩, h => by
    subst e
    simp only [feetOs, List.mem_append] at h
    rcases h with h | h
    · exact RepO.feet h1 h
    · exact RepOs.feet h2 h
end
def addF (F H : Hp) (as : List Addr) : Hp := fun b => if b ∈ as then H b else F b
mutual
theorem RepO.fz {as : List Addr} (f : Same F (addF F H as)) : ∀ {t : OT} {v : V}, RepO K F H t v -> (∀ a ∈ feetO H t v, a ∈ as) -> Rp K (addF F H as) t.erase v
  | .frz _, _, r, _ => Rp.mono f r
  | .lst ts, _, ⟨b, vs, e, q, r⟩, h => by
    subst e
    simp only [feetO, itemsH_lst q] at h
    exact ⟨b, vs, rfl, by unfold addF; rw [if_pos (h b (by simp))]; exact q, RepOs.fz f r fun a ha => h a (by simp [ha])⟩
  | .tup ts, _, ⟨b, vs, e, q, r⟩, h => by
    subst e
    simp only [feetO, itemsH_tup q] at h
    exact ⟨b, vs, rfl, by unfold addF; rw [if_pos (h b (by simp))]; exact q, RepOs.fz f r fun a ha => h a (by simp [ha])⟩
theorem RepOs.fz {as : List Addr} (f : Same F (addF F H as)) : ∀ {ts : List OT} {vs : List V}, RepOs K F H ts vs -> (∀ a ∈ feetOs H ts vs, a ∈ as) -> Rps K (addF F H as) (erases ts) vs
  | [], _, r, _ => r
  | t :: ts, _, ⟨v, r, e, h1, h2⟩, h => by
    subst e
    simp only [feetOs] at h
    exact ⟨v, r, rfl, RepO.fz f h1 fun a ha => h a (by simp [ha]), RepOs.fz f h2 fun a ha => h a (by simp [ha])⟩
end
theorem same_addF {as : List Addr} (h : ∀ a ∈ as, F a = none) : Same F (addF F H as) := fun b u e => by
  unfold addF
  rw [if_neg fun z => by rw [h b z] at e; cases e]
  exact e
end
def Rkv (K : KW) (F : Hp) (kvs : List (Key × D)) (vs : List (Key × V)) : Prop := Paired (fun p q => p.1 = q.1 /\ Rp K F p.2 q.2) kvs vs
theorem Rkv.mono {K : KW} {F F' : Hp} (s : Same F F') {kvs : List (Key × D)} {vs : List (Key × V)} (r : Rkv K F kvs vs) : Rkv K F' kvs vs := Paired.mapP r fun _ _ h => ⟨h.1, h.2.mono s⟩
inductive En where
  | val (d : D) | acc (ds : List D) | bor (ds : List D) | oac (a dx C : Addr) (fs : List Str) (ds : List D) | tre (t : OT)
    | dct (oa : Option Addr) (kvs : List (Key × D)) | dbo (kvs : List (Key × D))
    | exn (a : Addr)
abbrev EnvD := List (Option En)
structure Bs where
  F0 : Hp
  H0 : Hp
def RepE (K : KW) (B : Bs) (F H : Hp) : En -> V -> Prop
  | .val d, v => Rp K F d v
  | .acc ds, v => ∃ a vs, v = .ref a /\ H a = some (.lst vs) /\ F a = none /\ B.H0 a = none /\ Rps K F ds vs
  | .bor ds, v => ∃ a vs, v = .ref a /\ B.H0 a = some (.lst vs) /\ Rps K F ds vs
  | .oac a dx C fs ds, v => ∃ vs, v = .ref a /\ H a = some (.ins C dx (fs.zip vs)) /\ fs.length = vs.length /\ F a = none /\ B.H0 a = none /\ Rps K F ds vs
  | .tre t, v => RepO K F H t v /\ (feetO H t v).Nodup /\ ∀ a ∈ feetO H t v, F a = none /\ B.H0 a = none
  | .dct oa kvs, v => ∃ a ob vs, v = .ref a /\ H a = some (DX K.w a ob vs) /\ F a = none /\ B.H0 a = none /\ Rkv K F kvs vs /\ ∀ b, oa = some b -> b = a
  | .dbo kvs, v => ∃ a ob vs, v = .ref a /\ B.H0 a = some (DX K.w a ob vs) /\ Rkv K F kvs vs
  | .exn a, v => v = .ref a
def En.own : En -> Bool
  | .acc _ => true
  | .dct _ _ => true
  | .oac _ _ _ _ _ => true
  | _ => false
def feetE (H : Hp) : En -> V -> List Addr
  | .acc _, v => match v with
    | .ref a => [a]
    | _ => []
  | .oac _ _ _ _ _, v => match v with
    | .ref a => [a]
    | _ => []
  | .tre t, v => feetO H t v
  | .dct _ _, v => match v with
    | .ref a => [a]
    | _ => []
  | _, _ => []
theorem feetE_own {H : Hp} {x : En} {a : Addr} (o : x.own = true) : feetE H x (.ref a) = [a] := by cases x <;> first | rfl | cases o
structure Rep (K : KW) (B : Bs) (F : Hp) (σ : St) (H : Hp) (ρ : EnvD) : Prop where
  ex : Ext B.F0 B.H0 F H
  len : σ.length = ρ.length
  ents : ∀ (i : Nat) x, ρ[i]? = some (some x) -> ∃ v, σ[i]? = some (some v) /\ RepE K B F H x v
  dj : ∀ (i j : Nat) x y v w, ρ[i]? = some (some x) -> ρ[j]? = some (some y) -> σ[i]? = some (some v) -> σ[j]? = some (some w) -> i ≠ j -> ∀ a ∈ feetE H x v, a ∉ feetE H y w
section
variable {K : KW} {B : Bs} {F F' H H' : Hp} {σ : St} {ρ : EnvD}
theorem keep_none {a : Addr} (e : Ext F H F' H') (h : F a = none) (hh : H a ≠ none) : F' a = none := by
  cases q : F' a with
  | none => rfl
  | some o => exact ((e.nw a (by rw [q]; simp)).elim (fun z => (z h).elim) fun z => (hh z).elim)
theorem RepE.ext {x : En} {v : V} (r : RepE K B F H x v) (e : Ext F H F' H') : RepE K B F' H' x v := by
  cases x with
  | val d => exact Rp.mono e.ff r
  | acc ds =>
    obtain ⟨a, vs, e1, e2, e3, e4, e5⟩ := r
    exact ⟨a, vs, e1, e.hh _ _ e2, keep_none e e3 (by rw [e2]; simp), e4, e5.mono e.ff⟩
  | bor ds =>
    obtain ⟨a, vs, e1, e2, e5⟩ := r
    exact ⟨a, vs, e1, e2, e5.mono e.ff⟩
  | oac a dx C fs ds =>
    obtain ⟨vs, e1, e2, el, e3, e4, e5⟩ := r
    exact ⟨vs, e1, e.hh _ _ e2, el, keep_none e e3 (by rw [e2]; simp), e4, e5.mono e.ff⟩
  | tre t =>
    obtain ⟨r1, r2, r3⟩ := r
    obtain ⟨s1, s2⟩ := RepO.ext e.ff e.hh r1
    refine ⟨s1, by rw [s2]; exact r2, fun a ha => ?_⟩
    rw [s2] at ha
    exact ⟨keep_none e (r3 a ha).1 (RepO.feet r1 ha), (r3 a ha).2⟩
  | dct oa kvs =>
    obtain ⟨a, ob, vs, e1, e2, e3, e4, e5, e6⟩ := r
    exact ⟨a, ob, vs, e1, e.hh _ _ e2, keep_none e e3 (by rw [e2]; simp), e4, e5.mono e.ff, e6⟩
  | dbo kvs =>
    obtain ⟨a, ob, vs, e1, e2, e5⟩ := r
    exact ⟨a, ob, vs, e1, e2, e5.mono e.ff⟩
  | exn a => exact r
theorem RepE.feet_ext {x : En} {v : V} (r : RepE K B F H x v) (e : Same H H') : feetE H' x v = feetE H x v := by
  cases x with
  | tre t => exact (RepO.ext (Same.refl F) e r.1).2
  | _ => rfl
theorem RepE.feet_at {x : En} {v : V} {a : Addr} (r : RepE K B F H x v) (h : a ∈ feetE H x v) : H a ≠ none /\ F a = none /\ B.H0 a = none := by
  cases x with
  | val d => cases h
  | bor ds => cases h
  | acc ds =>
    obtain ⟨b, vs, rfl, e2, e3, e4, e5⟩ := r
    simp only [feetE, List.mem_singleton] at h
    subst h
    exact ⟨by rw [e2]; simp, e3, e4⟩
  | oac b dx C fs ds =>
    obtain ⟨vs, rfl, e2, el, e3, e4, e5⟩ := r
    simp only [feetE, List.mem_singleton] at h
    subst h
    exact ⟨by rw [e2]; simp, e3, e4⟩
  | tre t => exact ⟨RepO.feet r.1 h, r.2.2 a h⟩
  | dct oa kvs =>
    obtain ⟨b, ob, vs, rfl, e2, e3, e4, e5⟩ := r
    simp only [feetE, List.mem_singleton] at h
    subst h
    exact ⟨by rw [e2]; simp, e3, e4⟩
  | dbo kvs => cases h
  | exn a => cases h
theorem Rep.ext (r : Rep K B F σ H ρ) (e : Ext F H F' H') : Rep K B F' σ H' ρ := by
  refine ⟨r.ex.trans e, r.len, fun i x h => let ⟨v, h1, h2⟩ := r.ents i x h; ⟨v, h1, h2.ext e⟩, fun i j x y v w e1 e2 s1 s2 hne a ha hb => ?_⟩
  obtain ⟨v', q1, p1⟩ := r.ents i x e1
  rw [s1] at q1; cases q1
  obtain ⟨w', q2, p2⟩ := r.ents j y e2
  rw [s2] at q2; cases q2
  rw [p1.feet_ext e.hh] at ha
  rw [p2.feet_ext e.hh] at hb
  exact r.dj i j x y v w e1 e2 s1 s2 hne a ha hb
theorem Rep.fh (r : Rep K B F σ H ρ) : Same F H := r.ex.fh
theorem set_slot {α : Type} {l : List α} {i j : Nat} {x y : α} (h : (l.set i x)[j]? = some y) : (j = i /\ x = y /\ i < l.length) ∨ (j ≠ i /\ l[j]? = some y) := by
  by_cases hj : j = i
  · subst hj
    have hl : j < l.length := by
      have := (List.getElem?_eq_some_iff.mp h).1
      simpa using this
    rw [List.getElem?_set_self hl] at h
    cases h
    exact .inl ⟨rfl, rfl, hl⟩
  · rw [List.getElem?_set_ne (Ne.symm hj)] at h
    exact .inr ⟨hj, h⟩
theorem Rep.seto (r : Rep K B F σ H ρ) {i : Nat} {x : En} {v : V} (h : RepE K B F H x v) (hn : ∀ (j : Nat) y w, ρ[j]? = some (some y) -> σ[j]? = some (some w) -> j ≠ i -> ∀ a ∈ feetE H x v, a ∉ feetE H y w) : Rep K B F (σ.set i (some v)) H (ρ.set i (some x)) := by
  refine ⟨r.ex, by simp [r.len], fun j y e => ?_, fun j k y z u w e1 e2 s1 s2 hne a ha hb => ?_⟩
  · rcases set_slot e with ⟨rfl, q, hl⟩ | ⟨hj, e⟩
    · cases q
      exact ⟨v, List.getElem?_set_self (by rw [r.len]; exact hl), h⟩
    · obtain ⟨w, h1, h2⟩ := r.ents j y e
      exact ⟨w, by rw [List.getElem?_set_ne (Ne.symm hj)]; exact h1, h2⟩
  · rcases set_slot e1 with ⟨rfl, q1, _⟩ | ⟨hj, f1⟩ <;> rcases set_slot e2 with ⟨rfl, q2, _⟩ | ⟨hk, f2⟩
    · exact hne rfl
    · cases q1
      rcases set_slot s1 with ⟨_, p1, _⟩ | ⟨z, _⟩
      · cases p1
        rw [List.getElem?_set_ne (Ne.symm hk)] at s2
        exact hn k z w f2 s2 hk a ha hb
      · exact (z rfl).elim
    · cases q2
      rcases set_slot s2 with ⟨_, p2, _⟩ | ⟨z, _⟩
      · cases p2
        rw [List.getElem?_set_ne (Ne.symm hj)] at s1
        exact hn j y u f1 s1 hj a hb ha
      · exact (z rfl).elim
    · rw [List.getElem?_set_ne (Ne.symm hj)] at s1
      rw [List.getElem?_set_ne (Ne.symm hk)] at s2
      exact r.dj j k y z u w f1 f2 s1 s2 hne a ha hb
theorem Rep.setv (r : Rep K B F σ H ρ) {i : Nat} {d : D} {v : V} (h : Rp K F d v) : Rep K B F (σ.set i (some v)) H (ρ.set i (some (.val d))) :=
  r.seto (x := .val d) h fun _ _ _ _ _ _ a ha => by cases ha
theorem RepE.other {x : En} {v : V} {a : Addr} {o : HO} (r : RepE K B F H x v) (hn : a ∉ feetE H x v) (h0 : B.H0 a = none) : RepE K B F (upd H a o) x v /\ feetE (upd H a o) x v = feetE H x v := by
  cases x with
  | val d => exact ⟨r, rfl⟩
  | bor ds => exact ⟨r, rfl⟩
  | acc ds =>
    obtain ⟨b, vs, rfl, q2, q3, q4, q5⟩ := r
    have hb : b ≠ a := fun z => hn (by simp [feetE, z])
    exact ⟨⟨b, vs, rfl, by rw [upd_ne hb]; exact q2, q3, q4, q5⟩, rfl⟩
  | oac b dx C fs ds =>
    obtain ⟨vs, rfl, q2, ql, q3, q4, q5⟩ := r
    have hb : b ≠ a := fun z => hn (by simp [feetE, z])
    exact ⟨⟨vs, rfl, by rw [upd_ne hb]; exact q2, ql, q3, q4, q5⟩, rfl⟩
  | tre t =>
    obtain ⟨r1, r2, r3⟩ := r
    obtain ⟨s1, s2⟩ := RepO.other (o := o) r1 hn
    exact ⟨⟨s1, by rw [s2]; exact r2, fun b hb => r3 b (by rw [s2] at hb; exact hb)⟩, s2⟩
  | dct oa kvs =>
    obtain ⟨b, ob, vs, rfl, q2, q3, q4, q5⟩ := r
    have hb : b ≠ a := fun z => hn (by simp [feetE, z])
    exact ⟨⟨b, ob, vs, rfl, by rw [upd_ne hb]; exact q2, q3, q4, q5⟩, rfl⟩
  | dbo kvs => exact ⟨r, rfl⟩
  | exn a => exact ⟨r, rfl⟩
theorem Rep.writeG (r : Rep K B F σ H ρ) {i : Nat} {x y : En} {v : V} {a : Addr} {o : HO} (hi : ρ[i]? = some (some x)) (hs : σ[i]? = some (some v)) (ha : a ∈ feetE H x v) (hy : RepE K B F (upd H a o) y v) (hsub : ∀ b ∈ feetE (upd H a o) y v, b ∈ feetE H x v) :
    Rep K B F σ (upd H a o) (ρ.set i (some y)) := by
  have hl : i < ρ.length := (List.getElem?_eq_some_iff.mp hi).1
  obtain ⟨v', hv', rx⟩ := r.ents i x hi
  rw [hs] at hv'; cases hv'
  obtain ⟨_, hf, h0⟩ := rx.feet_at ha
  have oth : ∀ {j : Nat} {z : En} {w : V}, ρ[j]? = some (some z) -> σ[j]? = some (some w) -> j ≠ i -> RepE K B F (upd H a o) z w /\ feetE (upd H a o) z w = feetE H z w := fun {j z w} e s hj => by
    obtain ⟨w', hw', rz⟩ := r.ents j z e
    rw [s] at hw'; cases hw'
    exact rz.other (fun hz => r.dj i j x z v w hi e hs s (Ne.symm hj) a ha hz) h0
  refine ⟨⟨r.ex.ff, fun b u e => ?_, fun b u e => ?_, r.ex.nw⟩, by simp [r.len], fun j z e => ?_, fun j k z w u t e1 e2 s1 s2 hne b hb hc => ?_⟩
  · rw [upd_ne (ne_of_none e h0)]; exact r.ex.hh b u e
  · rw [upd_ne (ne_of_none e hf)]; exact r.ex.fh b u e
  · rcases set_slot e with ⟨rfl, q, _⟩ | ⟨hj, e⟩
    · cases q; exact ⟨v, hs, hy⟩
    · obtain ⟨w, h1, _⟩ := r.ents j z e
      exact ⟨w, h1, (oth e h1 hj).1⟩
  · rcases set_slot e1 with ⟨rfl, q1, _⟩ | ⟨hj, f1⟩ <;> rcases set_slot e2 with ⟨rfl, q2, _⟩ | ⟨hk, f2⟩
    · exact hne rfl
    · cases q1
      rw [hs] at s1; cases s1
      rw [(oth f2 s2 hk).2] at hc
      exact r.dj _ k x w v t hi f2 hs s2 hne b (hsub b hb) hc
    · cases q2
      rw [hs] at s2; cases s2
      rw [(oth f1 s1 hj).2] at hb
      exact r.dj j _ z x u v f1 hi s1 hs hne b hb (hsub b hc)
    · rw [(oth f1 s1 hj).2] at hb
      rw [(oth f2 s2 hk).2] at hc
      exact r.dj j k z w u t f1 f2 s1 s2 hne b hb hc
theorem Rep.write (r : Rep K B F σ H ρ) {i : Nat} {x y : En} {a : Addr} {o : HO} (hi : ρ[i]? = some (some x)) (ho : x.own = true) (hs : σ[i]? = some (some (.ref a))) (hf : F a = none) (h0 : B.H0 a = none) (hy : RepE K B F (upd H a o) y (.ref a)) (hyo : y.own = true) :
    Rep K B F σ (upd H a o) (ρ.set i (some y)) :=
  r.writeG hi hs (by rw [feetE_own ho]; simp) hy fun b hb => by rw [feetE_own hyo] at hb; rw [feetE_own ho]; exact hb
end
abbrev Post (α : Type) := Hp -> Hp -> Hp -> Hp -> α -> V -> Prop
def lG {α : Type} (K : KW) (B : Bs) (post : Post α) (g : EnvD -> Option α) : TE := fun σ H Q =>
  ∃ F ρ x, Rep K B F σ H ρ /\ g ρ = some x /\ ∀ v F' H', Ext F H F' H' -> post F H F' H' x v -> Q v H'
def pE (K : KW) : Post D := fun _ _ F' _ d v => Rp K F' d v
def pR (K : KW) : Post D := fun _ _ F' H' d v => Rq K F' H' d v
def pA (K : KW) : Post (List D) := fun _ H F' H' ds v => ∃ a vs, v = .ref a /\ H a = none /\ H' a = some (.lst vs) /\ F' a = none /\ Rps K F' ds vs
def DE (X : Cx) (B : Bs) (e : Expr) (g : EnvD -> Option D) : Prop := PE X e (lG X.kw B (pE X.kw) g)
def DR (X : Cx) (B : Bs) (e : Expr) (g : EnvD -> Option D) : Prop := PE X e (lG X.kw B (pR X.kw) g)
def DA (X : Cx) (B : Bs) (e : Expr) (g : EnvD -> Option (List D)) : Prop := PE X e (lG X.kw B (pA X.kw) g)
def lT (K : KW) (B : Bs) (g : EnvD -> Option Bool) : TT := fun σ H Q => ∃ F ρ b, Rep K B F σ H ρ /\ g ρ = some b /\ ∀ F' H', Ext F H F' H' -> Q b H'
def DT (X : Cx) (B : Bs) (e : Expr) (g : EnvD -> Option Bool) : Prop := PT X e (lT X.kw B g)
def DW (X : Cx) (B : Bs) (e : Expr) (g : EnvD -> Option Bool) : Prop := PW X e (lT X.kw B g)
def lAs (K : KW) (B : Bs) (post : Post D) (g : EnvD -> Option (List D)) : TA := fun σ H Q =>
  ∃ F ρ ds, Rep K B F σ H ρ /\ g ρ = some ds /\ ∀ vs F' H', Ext F H F' H' -> Paired (fun d v => post F H F' H' d v) ds vs -> Q vs H'
def DAs (X : Cx) (B : Bs) (es : List Expr) (g : EnvD -> Option (List D)) : Prop := PA X es (lAs X.kw B (pE X.kw) g)
def DRs (X : Cx) (B : Bs) (es : List Expr) (g : EnvD -> Option (List D)) : Prop := PA X es (lAs X.kw B (pR X.kw) g)
section
variable {X : Cx} {B : Bs} {e a b c : Expr} {es : List Expr} {pos : Pos}
theorem pe_imp {t t' : TE} (h : PE X e t) (k : ∀ σ H Q, t' σ H Q -> t σ H Q) : PE X e t' := fun pins s σ H Q I q => h pins s σ H Q I (k σ H Q q)
theorem pt_imp {t t' : TT} (h : PT X e t) (k : ∀ σ H Q, t' σ H Q -> t σ H Q) : PT X e t' := fun pins s σ H Q I q => h pins s σ H Q I (k σ H Q q)
theorem pw_imp {t t' : TT} (h : PW X e t) (k : ∀ σ H Q, t' σ H Q -> t σ H Q) : PW X e t' := fun wh pins s σ H Q I q => h wh pins s σ H Q I (k σ H Q q)
theorem pa_imp {t t' : TA} (h : PA X es t) (k : ∀ σ H Q, t' σ H Q -> t σ H Q) : PA X es t' := fun po pins s σ H Q I q => h po pins s σ H Q I (k σ H Q q)
theorem ps_imp {st : Stmt} {t t' : TS} (h : PS X st t) (k : ∀ E σ H, t' E σ H -> t E σ H) : PS X st t' := fun pins s σ H E I q => h pins s σ H E I (k E σ H q)
theorem pss_imp {st : List Stmt} {t t' : TS} (h : PSs X st t) (k : ∀ E σ H, t' E σ H -> t E σ H) : PSs X st t' := fun pins s σ H E I q => h pins s σ H E I (k E σ H q)
theorem pi_imp {tg : Expr} {t t' : TI} (h : PI X tg e t) (k : ∀ σ H Q, t' σ H Q -> t σ H Q) : PI X tg e t' := fun pins s σ H Q I q => h pins s σ H Q I (k σ H Q q)
theorem DE.read {g : EnvD -> Option D} (h : DE X B e g) : DR X B e g :=
  pe_imp h fun σ H Q ⟨F, ρ, x, r, hg, k⟩ => ⟨F, ρ, x, r, hg, fun v F' H' e p => k v F' H' e (.inl p)⟩
def gFz (g : EnvD -> Option (List D)) : EnvD -> Option D := fun ρ => (g ρ).map D.lst
theorem DA.frz {g : EnvD -> Option (List D)} (h : DA X B e g) : DE X B e (gFz g) :=
  pe_imp h fun σ H Q ⟨F, ρ, x, r, hg, k⟩ => by
    unfold gFz at hg
    cases q : g ρ with
    | none => rw [q] at hg; cases hg
    | some ds =>
      rw [q] at hg; cases hg
      refine ⟨F, ρ, ds, r, q, fun v F' H' e p => ?_⟩
      obtain ⟨a, vs, rfl, p1, p2, p3, p4⟩ := p
      exact k _ (upd F' a (.lst vs)) H' (e.freeze p1 p3 p2) ⟨a, vs, rfl, upd_same, p4.mono (same_upd p3)⟩
theorem DA.read {g : EnvD -> Option (List D)} (h : DA X B e g) : DR X B e (gFz g) := h.frz.read
def gv (i : Nat) : EnvD -> Option D := fun ρ => match ρ[i]? with
  | some (some (.val d)) => some d
  | _ => none
def gr (i : Nat) : EnvD -> Option D := fun ρ => match ρ[i]? with
  | some (some (.val d)) => some d
  | some (some (.acc ds)) => some (.lst ds)
  | some (some (.bor ds)) => some (.lst ds)
  | _ => none
theorem de_var (i : Nat) {x : Str} (h : PE X (.Name x pos) (tVar i)) : DE X B (.Name x pos) (gv i) :=
  pe_imp h fun σ H Q ⟨F, ρ, d, r, hg, k⟩ => by
    unfold gv at hg
    split at hg
    · rename_i d' e
      cases hg
      obtain ⟨v, h1, h2⟩ := r.ents i _ e
      exact ⟨v, h1, k v F H (.refl r.fh) h2⟩
    · cases hg
theorem dr_var (i : Nat) {x : Str} (h : PE X (.Name x pos) (tVar i)) : DR X B (.Name x pos) (gr i) :=
  pe_imp h fun σ H Q ⟨F, ρ, d, r, hg, k⟩ => by
    unfold gr at hg
    split at hg
    · rename_i d' e
      cases hg
      obtain ⟨v, h1, h2⟩ := r.ents i _ e
      exact ⟨v, h1, k v F H (.refl r.fh) (.inl h2)⟩
    · rename_i ds e
      cases hg
      obtain ⟨v, h1, a, vs, e1, e2, e3, e4, e5⟩ := r.ents i _ e
      exact ⟨v, h1, k v F H (.refl r.fh) (.inr ⟨a, vs, ds, rfl, e1, e2, e5⟩)⟩
    · rename_i ds e
      cases hg
      obtain ⟨v, h1, a, vs, e1, e2, e5⟩ := r.ents i _ e
      exact ⟨v, h1, k v F H (.refl r.fh) (.inr ⟨a, vs, ds, rfl, e1, r.ex.hh _ _ e2, e5⟩)⟩
    · cases hg
def gc (d : D) : EnvD -> Option D := fun _ => some d
theorem de_con {v : V} {d : D} (h : PE X e (tC v)) (r : ∀ F, Rp X.kw F d v) : DE X B e (gc d) :=
  pe_imp h fun σ H Q ⟨F, ρ, d', rr, hg, k⟩ => by cases hg; exact k v F H (.refl rr.fh) (r F)
theorem de_int {i : Int} {j} : DE X B (.Constant (.int i) j pos) (gc (.int i)) := de_con pe_int fun _ => rfl
theorem de_bl {i : Bool} {j} : DE X B (.Constant (.bool i) j pos) (gc (.bl i)) := de_con pe_bl fun _ => rfl
theorem de_non {j} : DE X B (.Constant .none j pos) (gc .non) := de_con pe_non fun _ => rfl
theorem de_str {x : Str} {j} : DE X B (.Constant (.str x) j pos) (gc (.str x)) := de_con pe_str fun _ => rfl
theorem de_glob {x : Str} {v : V} {u : Value} {d : D} (hg : Gl X x) (hm : X.mg x = some u) (r : RelV v u) (rd : ∀ F, Rp X.kw F d v) (hd : (x == ("__debug__" : Str)) = false := by decide) : DE X B (.Name x pos) (gc d) :=
  pe_imp (pe_glob hg hm r hd) fun σ H Q ⟨F, ρ, d', rr, hg, k⟩ => by cases hg; exact k v F H (.refl rr.fh) (rd F)
def g2 {γ : Type} (f : D -> D -> Option γ) (ga gb : EnvD -> Option D) : EnvD -> Option γ := fun ρ => (ga ρ).bind fun x => (gb ρ).bind fun y => f x y
def OkR {γ : Type} (K : KW) (r : R2) (pc : Post γ) (f : D -> D -> Option γ) : Prop :=
  ∀ F H x y dx dy d Q, Same F H -> Rq K F H dx x -> Rq K F H dy y -> f dx dy = some d -> (∀ v F' H', Ext F H F' H' -> pc F H F' H' d v -> Q v H') -> r x y H Q
def Back {γ : Type} (pc : Post γ) : Prop := ∀ F H F1 H1 F' H' d v, Ext F H F1 H1 -> pc F1 H1 F' H' d v -> pc F H F' H' d v
theorem back_E {K : KW} : Back (pE K) := fun _ _ _ _ _ _ _ _ _ h => h
theorem back_A {K : KW} : Back (pA K) := fun _ _ _ _ _ _ _ _ e ⟨a, vs, h1, h2, h⟩ => ⟨a, vs, h1, e.hh.free h2, h⟩
theorem op2 {γ : Type} {r : R2} {pc : Post γ} {f : D -> D -> Option γ} (hb : Back pc) (hr : OkR X.kw r pc f) {ga gb : EnvD -> Option D} {σ : St} {H : Hp} {Q : VK} (h : lG X.kw B pc (g2 f ga gb) σ H Q) :
    tOp r (lG X.kw B (pR X.kw) ga) (lG X.kw B (pR X.kw) gb) σ H Q := by
  obtain ⟨F, ρ, d, rr, hg, k⟩ := h
  unfold g2 at hg
  cases qa : ga ρ with
  | none => rw [qa] at hg; cases hg
  | some dx =>
    cases qb : gb ρ with
    | none => rw [qa, qb] at hg; cases hg
    | some dy =>
      rw [qa, qb] at hg
      refine ⟨F, ρ, dx, rr, qa, fun x F1 H1 e1 p1 => ⟨F1, ρ, dy, rr.ext e1, qb, fun y F2 H2 e2 p2 => ?_⟩⟩
      exact hr F2 H2 x y dx dy d Q e2.fh (p1.mono e2.ff e2.hh) p2 hg fun v F' H' e p => k v F' H' (e1.trans (e2.trans e)) (hb _ _ _ _ _ _ _ _ (e1.trans e2) p)
theorem de_op {op : Operator} {r : R2} {f : D -> D -> Option D} {ga gb : EnvD -> Option D} (ho : OpR X (binaryOp op) r) (hr : OkR X.kw r (pE X.kw) f) (ha : DR X B a ga) (hb : DR X B b gb) : DE X B (.BinOp a op b pos) (g2 f ga gb) :=
  pe_imp (pe_op ho ha hb) fun σ H Q h => op2 back_E hr h
theorem da_op {op : Operator} {r : R2} {f : D -> D -> Option (List D)} {ga gb : EnvD -> Option D} (ho : OpR X (binaryOp op) r) (hr : OkR X.kw r (pA X.kw) f) (ha : DR X B a ga) (hb : DR X B b gb) : DA X B (.BinOp a op b pos) (g2 f ga gb) :=
  pe_imp (pe_op ho ha hb) fun σ H Q h => op2 back_A hr h
theorem de_cmp {op : CmpOp} {r : R2} {f : D -> D -> Option D} {ga gb : EnvD -> Option D} (ho : OpR X (compareOp op) r) (hr : OkR X.kw r (pE X.kw) f) (ha : DR X B a ga) (hb : DR X B b gb) (hm : behindInMarks op b = false) : DE X B (.Compare a [op] [b] pos) (g2 f ga gb) :=
  pe_imp (pe_cmpR ho ha hb hm) fun σ H Q h => op2 back_E hr h
theorem de_ix {r : R2} {f : D -> D -> Option D} {ga gb : EnvD -> Option D} (ho : IxR X r) (hr : OkR X.kw r (pE X.kw) f) (ha : DR X B a ga) (hb : DR X B b gb) (hs : PlainIx b) : DE X B (.Subscript a b pos) (g2 f ga gb) :=
  pe_imp (pe_ix ho ha hb hs) fun σ H Q h => op2 back_E hr h
def fI (C : Int -> Int -> Bool) (f : Int -> Int -> D) : D -> D -> Option D
  | .int i, .int j => if C i j then some (f i j) else none
  | _, _ => none
theorem okI {K : KW} {C : Int -> Int -> Prop} {p : Int -> Int -> Bool} {f : Int -> Int -> D} {g : Int -> Int -> V} (hp : ∀ i j, p i j = true -> C i j) (hf : ∀ i j F, Rp K F (f i j) (g i j)) : OkR K (rI C g) (pE K) (fI p f) := by
  intro F H x y dx dy d Q s rx ry e k
  unfold fI at e
  split at e
  · rename_i i j
    split at e
    · rename_i hc
      cases e
      exact ⟨i, j, rx.int, ry.int, hp i j hc, k _ F H (.refl s) (hf i j F)⟩
    · cases e
  · cases e
theorem okI0 {K : KW} {f : Int -> Int -> D} {g : Int -> Int -> V} (hf : ∀ i j F, Rp K F (f i j) (g i j)) : OkR K (rI0 g) (pE K) (fI (fun _ _ => true) f) := by
  intro F H x y dx dy d Q s rx ry e k
  unfold fI at e
  split at e
  · rename_i i j
    rw [if_pos rfl] at e
    cases e
    exact ⟨i, j, rx.int, ry.int, k _ F H (.refl s) (hf i j F)⟩
  · cases e
def fSub := fI (fun _ _ => true) fun i j => .int (i - j)
def LIM : Int := 18446744073709551616
def fMul := fI (fun i j => (decide (-LIM < i) && decide (i < LIM)) || (decide (-LIM < j) && decide (j < LIM))) fun i j => .int (i * j)
def fDiv := fI (fun _ j => decide (0 < j) && decide (j < 1073741824)) fun i j => .int (i / j)
def fMod := fI (fun _ j => decide (0 < j)) fun i j => .int (i % j)
def fShr := fI (fun _ j => decide (0 <= j)) fun i j => .int (i / 2 ^ j.toNat)
def fAnd := fI (fun _ _ => true) fun i j => .int (Builtin.bitAnd i j)
def fPow := fI (fun i j => decide (0 <= j) && decide (j <= 1000000) && decide (i.natAbs < 18446744073709551616)) fun i j => .int (i ^ j.toNat)
variable {ga gb : EnvD -> Option D}
theorem de_sub (ha : DR X B a ga) (hb : DR X B b gb) : DE X B (.BinOp a .Sub b pos) (g2 fSub ga gb) := de_op op_sub (okI0 fun _ _ _ => rfl) ha hb
theorem de_mul (ha : DR X B a ga) (hb : DR X B b gb) : DE X B (.BinOp a .Mult b pos) (g2 fMul ga gb) := de_op op_mul (okI (fun i j h => by
  simp only [Bool.or_eq_true, Bool.and_eq_true, decide_eq_true_eq] at h
  unfold LIM at h
  rcases h with ⟨h1, h2⟩ | ⟨h1, h2⟩
  · exact .inl ⟨by omega, by omega⟩
  · exact .inr ⟨by omega, by omega⟩) fun _ _ _ => rfl) ha hb
theorem de_div (ha : DR X B a ga) (hb : DR X B b gb) : DE X B (.BinOp a .FloorDiv b pos) (g2 fDiv ga gb) := de_op op_fdiv (okI (fun i j h => by
  simp only [Bool.and_eq_true, decide_eq_true_eq] at h
  exact h) fun _ _ _ => rfl) ha hb
theorem de_mod (ha : DR X B a ga) (hb : DR X B b gb) : DE X B (.BinOp a .Mod b pos) (g2 fMod ga gb) := de_op op_mod (okI (fun i j h => by
  simp only [decide_eq_true_eq] at h
  exact h) fun _ _ _ => rfl) ha hb
theorem de_shr (ha : DR X B a ga) (hb : DR X B b gb) : DE X B (.BinOp a .RShift b pos) (g2 fShr ga gb) := de_op op_shr (okI (fun i j h => by
  simp only [decide_eq_true_eq] at h
  exact h) fun _ _ _ => rfl) ha hb
theorem de_and' (ha : DR X B a ga) (hb : DR X B b gb) : DE X B (.BinOp a .BitAnd b pos) (g2 fAnd ga gb) := de_op op_and (okI0 fun _ _ _ => rfl) ha hb
theorem de_pow (ha : DR X B a ga) (hb : DR X B b gb) : DE X B (.BinOp a .Pow b pos) (g2 fPow ga gb) := de_op op_pow (okI (fun i j h => by
  simp only [Bool.and_eq_true, decide_eq_true_eq] at h
  exact ⟨h.1.1, h.1.2, by have := h.2; omega⟩) fun _ _ _ => rfl) ha hb
def fLt := fI (fun _ _ => true) fun i j => .bl (decide (i < j))
def fLe := fI (fun _ _ => true) fun i j => .bl (decide (i <= j))
def fGt := fI (fun _ _ => true) fun i j => .bl (decide (j < i))
theorem ok_lt {K : KW} : OkR K (rI0 fun i j => .bl (decide (i < j))) (pE K) fLt := okI0 fun _ _ _ => rfl
theorem ok_le {K : KW} : OkR K (rI0 fun i j => .bl (decide (i <= j))) (pE K) fLe := okI0 fun _ _ _ => rfl
theorem ok_gt {K : KW} : OkR K (rI0 fun i j => .bl (decide (j < i))) (pE K) fGt := okI0 fun _ _ _ => rfl
def TOP : Nat := 1000000
theorem top_line {n : Nat} (h : n <= TOP) : n <= sizeLine := Nat.le_trans h (by decide)
theorem top_line' {n : Nat} (h : n <= TOP) : n < sizeLine := Nat.lt_of_le_of_lt h (by decide)
def fIx : D -> D -> Option D
  | .lst xs, .int i => atI xs i
  | .tup xs, .int i => atI xs i
  | .scr ns, .int i => (atI ns i).map D.int
  | _, _ => none
theorem atI_rp {K : KW} {F : Hp} {ds : List D} {vs : List V} {i : Int} {d : D} (r : Rps K F ds vs) (h : atI ds i = some d) : ∃ v, atI vs i = some v /\ Rp K F d v := by
  unfold atI at h ⊢
  rw [<- r.length]
  cases q : ixN ds.length i with
  | none => rw [q] at h; cases h
  | some j => rw [q] at h; exact r.get h
theorem ok_ix {K : KW} : OkR K (rIx K) (pE K) fIx := by
  intro F H x y dx dy d Q s rx ry e k
  unfold fIx at e
  split at e
  · rename_i xs i
    obtain ⟨p, vs, rfl, h1, h2⟩ := rx.lst s
    obtain ⟨v, h3, h4⟩ := atI_rp h2 e
    exact .inl ⟨p, vs, i, v, rfl, ry.int, .of h1, h3, k _ F H (.refl s) h4⟩
  · rename_i xs i
    obtain ⟨p, vs, rfl, h1, h2⟩ := rx.tup s
    obtain ⟨v, h3, h4⟩ := atI_rp h2 e
    exact .inr (.inl ⟨p, vs, i, v, rfl, ry.int, .of h1, h3, k _ F H (.refl s) h4⟩)
  · rename_i ns i
    obtain ⟨p, rfl, h1⟩ := rx.scr s
    cases q : atI ns i with
    | none => rw [q] at e; cases e
    | some n =>
      rw [q] at e
      cases e
      refine .inl ⟨p, _, i, .int n, rfl, ry.int, h1, ?_, k _ F H (.refl s) rfl⟩
      unfold atI at q ⊢
      rw [List.length_map]
      cases q' : ixN ns.length i with
      | none => rw [q'] at q; cases q
      | some j =>
        rw [q'] at q
        have q : ns[j]? = some n := q
        show (ns.map V.int)[j]? = some (.int n)
        rw [List.getElem?_map, q]; rfl
  · cases e
end
mutual
def toP : D -> PyData
  | .non => .none
  | .bl b => .bool b
  | .int i => .int i
  | .str x => .str x
  | .lst ds => .list (toPs ds)
  | .tup ds => .tuple (toPs ds)
  | .scr ns => .list (ns.map PyData.int)
  | .obj _ _ _ => .dict []
  | .emp => .dict []
def toPs : List D -> List PyData
  | [] => []
  | d :: ds => toP d :: toPs ds
end
section
variable {X : Cx} {pins : List (Addr × Obj)} {σ : St} {F H : Hp} {s : Shared}
theorem readsInts {h : Heap} : ∀ (ns : List Int) {us : List Value}, Vals (ns.map V.int) us -> ∃ as, ReadsAll h us (ns.map PyData.int) as
  | [], _, .nil => ⟨_, .nil⟩
  | n :: ns, _, .cons r t => by
    obtain ⟨t', rfl⟩ := r
    obtain ⟨as, q⟩ := readsInts ns t
    exact ⟨_, .cons (.int n t') q⟩
mutual
theorem Rp.reads (I : Inv X pins σ H s) (fh : Same F H) : ∀ (d : D) {v : V} {u : Value}, (toP d).canLay0 = true -> Rp X.kw F d v -> RelV v u -> ∃ as, Reads s.heap u (toP d) as
  | .non, _, _, _, h, r => by subst h; cases r; exact ⟨_, .none⟩
  | .bl b, _, _, _, h, r => by subst h; cases r; exact ⟨_, .bool b⟩
  | .int i, _, _, _, h, r => by subst h; obtain ⟨t, rfl⟩ := r; exact ⟨_, .int i t⟩
  | .str x, _, _, _, h, r => by subst h; obtain ⟨t, rfl⟩ := r; exact ⟨_, .str x t⟩
  | .lst ds, _, _, c, ⟨a, vs, e, q, h⟩, r => by
    subst e; cases r
    obtain ⟨z, its, n, rv, e⟩ := (show ObjOk X.prog X.w H s.heap a (.lst vs) from I.hok a _ (fh _ _ q))
    obtain ⟨as, t⟩ := Rps.reads I fh ds (show PyData.canLayAll0 (toPs ds) = true from c) h rv
    exact ⟨_, .list e rfl rfl (by simpa using t)⟩
  | .tup ds, _, _, c, ⟨a, vs, e, q, h⟩, r => by
    subst e; cases r
    obtain ⟨z, its, rv, o, e, hc, n, hd⟩ := (show ObjOk X.prog X.w H s.heap a (.tup vs) from I.hok a _ (fh _ _ q))
    obtain ⟨as, t⟩ := Rps.reads I fh ds (show PyData.canLayAll0 (toPs ds) = true from c) h rv
    exact ⟨_, .tuple e hc hd (by simpa using t)⟩
  | .scr ns, _, _, c, ⟨a, e, q⟩, r => by
    subst e; cases r
    obtain ⟨its, rv, ⟨o, n, e, hc, _, hd⟩, _⟩ := I.list (fh.seq q)
    obtain ⟨as, t⟩ := readsInts (h := s.heap) ns rv
    exact ⟨_, .list e hc hd (by simpa using t)⟩
  | .obj _ _ _, _, _, c, _, _ => by cases c
  | .emp, _, _, c, _, _ => by cases c
theorem Rps.reads (I : Inv X pins σ H s) (fh : Same F H) : ∀ (ds : List D) {vs : List V} {us : List Value}, PyData.canLayAll0 (toPs ds) = true -> Rps X.kw F ds vs -> Vals vs us -> ∃ as, ReadsAll s.heap us (toPs ds) as
  | [], _, _, _, h, r => by subst h; cases r; exact ⟨_, .nil⟩
  | d :: ds, _, _, c, ⟨v, w, e, h, t⟩, r => by
    subst e
    cases r with
    | cons r rr =>
      have c' : ((toP d).canLay0 && PyData.canLayAll0 (toPs ds)) = true := c
      obtain ⟨c1, c2⟩ := Bool.and_eq_true_iff.mp c'
      obtain ⟨as, q⟩ := Rp.reads I fh d c1 h r
      obtain ⟨bs, p⟩ := Rps.reads I fh ds c2 t rr
      exact ⟨_, .cons q p⟩
end
theorem Rq.reads (I : Inv X pins σ H s) (fh : Same F H) {d : D} {v : V} {u : Value} (c : (toP d).canLay0 = true) (h : Rq X.kw F H d v) (r : RelV v u) : ∃ as, Reads s.heap u (toP d) as := by
  rcases h with h | ⟨a, vs, ds, rfl, rfl, e, h⟩
  · exact h.reads I fh d c r
  · cases r
    obtain ⟨z, its, n, rv, e⟩ := (show ObjOk X.prog X.w H s.heap a (.lst vs) from I.hok a _ e)
    obtain ⟨as, t⟩ := Rps.reads I fh ds (show PyData.canLayAll0 (toPs ds) = true from c) h rv
    exact ⟨_, .list e rfl rfl (by simpa using t)⟩
end
def eqOk (d : D) : Bool := SeqAt.shaped (toP d)
def eqD (d d' : D) : Bool := PyData.eqv (toP d) (toP d')
def rEqD (K : KW) (neg : Bool) : R2 := fun x y H Q => ∃ F d d', Same F H /\ Rq K F H d x /\ Rq K F H d' y /\ eqOk d = true /\ eqOk d' = true /\ Q (.bl (if neg then !eqD d d' else eqD d d')) H
section
variable {X : Cx} {B : Bs} {e a b c : Expr} {es : List Expr} {pos : Pos} {ga gb : EnvD -> Option D}
theorem op_eqD (hu : X.A.units + 64 < cLine) : OpR X (compareOp .Eq) (rEqD X.kw false) := by
  intro pins s σ H x y v u Q I rx ry ⟨F, d, d', fh, h1, h2, o1, o2, q⟩
  obtain ⟨as, ra⟩ := h1.reads I fh (SeqAt.canLay_of_shaped o1) rx
  obtain ⟨bs, rb⟩ := h2.reads I fh (SeqAt.canLay_of_shaped o2) ry
  exact SeqAt.compareEq_shaped ra rb o1 o2 hu ⟨.bl (eqD d d'), H, I, rfl, q⟩
theorem op_neD (hu : X.A.units + 64 < cLine) : OpR X (compareOp .NotEq) (rEqD X.kw true) := by
  intro pins s σ H x y v u Q I rx ry ⟨F, d, d', fh, h1, h2, o1, o2, q⟩
  obtain ⟨as, ra⟩ := h1.reads I fh (SeqAt.canLay_of_shaped o1) rx
  obtain ⟨bs, rb⟩ := h2.reads I fh (SeqAt.canLay_of_shaped o2) ry
  exact SeqAt.compareNe_shaped ra rb o1 o2 hu ⟨.bl (!eqD d d'), H, I, rfl, q⟩
def fEq (neg : Bool) : D -> D -> Option D := fun x y => if eqOk x && eqOk y then some (.bl (if neg then !eqD x y else eqD x y)) else none
theorem ok_eq {K : KW} {neg : Bool} : OkR K (rEqD K neg) (pE K) (fEq neg) := by
  intro F H x y dx dy d Q s rx ry e k
  unfold fEq at e
  split at e
  · rename_i hc
    cases e
    obtain ⟨h1, h2⟩ := Bool.and_eq_true_iff.mp hc
    exact ⟨F, dx, dy, s, rx, ry, h1, h2, k _ F H (.refl s) rfl⟩
  · cases e
def asB : D -> Option Bool
  | .bl b => some b
  | _ => none
def truD : D -> Option Bool
  | .non => some false
  | .bl b => some b
  | .int i => some (i != 0)
  | .str x => if x.length <= TOP then some ((x.length : Int) != 0) else none
  | .lst ds => some (!ds.isEmpty)
  | .tup ds => some (!ds.isEmpty)
  | .scr ns => some (!ns.isEmpty)
  | .obj _ _ _ => none
  | .emp => none
theorem isEmpty_rps {K : KW} {F : Hp} {ds : List D} {vs : List V} (r : Rps K F ds vs) : ds.isEmpty = vs.isEmpty := by
  have := r.length
  cases ds <;> cases vs <;> simp_all
theorem tru_rq {K : KW} {F H : Hp} (s : Same F H) {d : D} {v : V} {b : Bool} (r : Rq K F H d v) (h : truD d = some b) : TruV K v H b := by
  cases d with
  | non => cases r.non; cases h; rfl
  | bl x => cases r.bl; cases h; rfl
  | int x => cases r.int; cases h; rfl
  | str x =>
    cases r.str
    have h : (if x.length <= TOP then some ((x.length : Int) != 0) else none) = some b := h
    split at h
    · rename_i hc; cases h; exact ⟨top_line hc, rfl⟩
    · cases h
  | lst ds => obtain ⟨a, vs, rfl, q, t⟩ := r.lst s; cases h; exact .inl ⟨vs, .of q, by rw [isEmpty_rps t]⟩
  | tup ds => obtain ⟨a, vs, rfl, q, t⟩ := r.tup s; cases h; exact .inr (.inl ⟨vs, .of q, by rw [isEmpty_rps t]⟩)
  | scr ns => obtain ⟨a, rfl, q⟩ := r.scr s; cases h; exact .inl ⟨_, q, by simp⟩
  | obj C f ds => cases h
  | emp => cases h
def gt (g : EnvD -> Option D) : EnvD -> Option Bool := fun ρ => (g ρ).bind truD
def gb' (g : EnvD -> Option D) : EnvD -> Option Bool := fun ρ => (g ρ).bind asB
theorem dt_truth {g : EnvD -> Option D} (ha : DR X B a g) (he : ∀ whole, isTrue a X.env whole = (do let v <- whole; standAt a.pos; holding [v] (truthy v))) : DT X B a (gt g) :=
  pt_imp (pt_truth ha he) fun σ H Q ⟨F, ρ, b, r, hg, k⟩ => by
    unfold gt at hg
    cases q : g ρ with
    | none => rw [q] at hg; cases hg
    | some d =>
      rw [q] at hg
      exact ⟨F, ρ, d, r, q, fun v F' H' e p => ⟨b, tru_rq e.fh p hg, k F' H' e⟩⟩
theorem dt_cmp {op : CmpOp} {r : R2} {f : D -> D -> Option D} (ho : OpR X (compareOp op) r) (hr : OkR X.kw r (pE X.kw) f) (ha : DR X B a ga) (hb : DR X B b gb) (hm : behindInMarks op b = false) : DT X B (.Compare a [op] [b] pos) (gb' (g2 f ga gb)) :=
  pt_imp (pt_cmpR ho ha hb hm) fun σ H Q ⟨F, ρ, c, rr, hg, k⟩ => by
    unfold gb' at hg
    cases q : g2 f ga gb ρ with
    | none => rw [q] at hg; cases hg
    | some d =>
      rw [q] at hg
      refine op2 back_E hr ⟨F, ρ, d, rr, q, fun v F' H' e p => ?_⟩
      cases d with
      | bl y => cases hg; exact ⟨c, p, k F' H' e⟩
      | _ => cases hg
def gAnd (ga gb : EnvD -> Option Bool) : EnvD -> Option Bool := fun ρ => (ga ρ).bind fun x => if x then gb ρ else some false
def gOr (ga gb : EnvD -> Option Bool) : EnvD -> Option Bool := fun ρ => (ga ρ).bind fun x => if x then some true else gb ρ
def gNot (ga : EnvD -> Option Bool) : EnvD -> Option Bool := fun ρ => (ga ρ).map fun x => !x
variable {ta tb : EnvD -> Option Bool} {rest : List Expr}
theorem dw_and1 (ha : DT X B a ta) : DW X B (.BoolOp .And [a] pos) ta := pw_and1 ha
theorem dw_or1 (ha : DT X B a ta) : DW X B (.BoolOp .Or [a] pos) ta := pw_or1 ha
theorem dw_and (ha : DT X B a ta) (hb : DW X B (.BoolOp .And (b :: rest) pos) tb) : DW X B (.BoolOp .And (a :: b :: rest) pos) (gAnd ta tb) :=
  pw_imp (pw_and ha hb) fun σ H Q ⟨F, ρ, c, r, hg, k⟩ => by
    unfold gAnd at hg
    cases q : ta ρ with
    | none => rw [q] at hg; cases hg
    | some x =>
      rw [q] at hg
      refine ⟨F, ρ, x, r, q, fun F1 H1 e1 => ?_⟩
      cases x with
      | true => exact iteT ⟨F1, ρ, c, r.ext e1, hg, fun F2 H2 e2 => k F2 H2 (e1.trans e2)⟩
      | false => cases hg; exact iteF (k F1 H1 e1)
theorem dw_or (ha : DT X B a ta) (hb : DW X B (.BoolOp .Or (b :: rest) pos) tb) : DW X B (.BoolOp .Or (a :: b :: rest) pos) (gOr ta tb) :=
  pw_imp (pw_or ha hb) fun σ H Q ⟨F, ρ, c, r, hg, k⟩ => by
    unfold gOr at hg
    cases q : ta ρ with
    | none => rw [q] at hg; cases hg
    | some x =>
      rw [q] at hg
      refine ⟨F, ρ, x, r, q, fun F1 H1 e1 => ?_⟩
      cases x with
      | true => cases hg; exact iteT (k F1 H1 e1)
      | false => exact iteF ⟨F1, ρ, c, r.ext e1, hg, fun F2 H2 e2 => k F2 H2 (e1.trans e2)⟩
theorem dt_w (h : DW X B a ta) : DT X B a ta := PW.pt h
theorem dt_not (ha : DT X B a ta) : DT X B (.UnaryOp .Not a pos) (gNot ta) :=
  pt_imp (pt_not ha) fun σ H Q ⟨F, ρ, c, r, hg, k⟩ => by
    unfold gNot at hg
    cases q : ta ρ with
    | none => rw [q] at hg; cases hg
    | some x => rw [q] at hg; cases hg; exact ⟨F, ρ, x, r, q, fun F1 H1 e1 => k F1 H1 e1⟩
def gAndV (ga gb : EnvD -> Option D) : EnvD -> Option D := fun ρ => ((ga ρ).bind asB).bind fun x => if x then gb ρ else some (.bl false)
def gNotV (ga : EnvD -> Option D) : EnvD -> Option D := fun ρ => ((ga ρ).bind asB).map fun x => .bl (!x)
theorem asB_some {d : D} {b : Bool} (h : asB d = some b) : d = .bl b := by cases d <;> cases h; rfl
theorem bindB {g : EnvD -> Option D} {ρ : EnvD} {α : Type} {f : Bool -> Option α} {y : α} (h : ((g ρ).bind asB).bind f = some y) : ∃ b, g ρ = some (.bl b) /\ f b = some y := by
  cases q : g ρ with
  | none => rw [q] at h; cases h
  | some d =>
    rw [q] at h
    cases q2 : asB d with
    | none => rw [show (some d).bind asB = asB d from rfl, q2] at h; cases h
    | some b => rw [show (some d).bind asB = asB d from rfl, q2] at h; exact ⟨b, by rw [asB_some q2], h⟩
theorem de_one {op} (h : DE X B a ga) : DE X B (.BoolOp op [a] pos) ga := pe_one h
theorem de_andv (ha : DE X B a ga) (hb : DE X B (.BoolOp .And (b :: rest) pos) gb) : DE X B (.BoolOp .And (a :: b :: rest) pos) (gAndV ga gb) :=
  pe_imp (pe_and ha hb) fun σ H Q ⟨F, ρ, d, r, hg, k⟩ => by
    obtain ⟨x, q, hg⟩ := bindB hg
    refine ⟨F, ρ, _, r, q, fun v F1 H1 e1 p1 => ⟨x, p1, ?_⟩⟩
    cases x with
    | true => exact iteT ⟨F1, ρ, d, r.ext e1, hg, fun v F2 H2 e2 p2 => k v F2 H2 (e1.trans e2) p2⟩
    | false => cases hg; exact iteF (k _ F1 H1 e1 rfl)
theorem de_notv (ha : DE X B a ga) : DE X B (.UnaryOp .Not a pos) (gNotV ga) :=
  pe_imp (pe_not ha) fun σ H Q ⟨F, ρ, d, r, hg, k⟩ => by
    unfold gNotV at hg
    rw [Option.map_eq_bind] at hg
    obtain ⟨x, q, hg⟩ := bindB hg
    cases hg
    exact ⟨F, ρ, _, r, q, fun v F1 H1 e1 p1 => ⟨x, p1, k _ F1 H1 e1 rfl⟩⟩
end
section
variable {X : Cx} {B : Bs} {e a b c : Expr} {es : List Expr} {pos : Pos} {ga gb gc' : EnvD -> Option D}
def g3 (f f' : D -> D -> Option D) (ga gb gc : EnvD -> Option D) : EnvD -> Option D := fun ρ =>
  (ga ρ).bind fun x => (gb ρ).bind fun y => ((f x y).bind asB).bind fun k => if k then (gc ρ).bind fun z => f' y z else some (.bl false)
theorem chain_ok {r r' : R2} {f f' : D -> D -> Option D} (hr : OkR X.kw r (pE X.kw) f) (hr' : OkR X.kw r' (pE X.kw) f') {σ : St} {H : Hp} {Q : VK} (h : lG X.kw B (pE X.kw) (g3 f f' ga gb gc') σ H Q) :
    tChain r r' (lG X.kw B (pR X.kw) ga) (lG X.kw B (pR X.kw) gb) (lG X.kw B (pR X.kw) gc') σ H Q := by
  obtain ⟨F, ρ, d, rr, hg, k⟩ := h
  unfold g3 at hg
  cases qa : ga ρ with
  | none => rw [qa] at hg; cases hg
  | some dx =>
    cases qb : gb ρ with
    | none => rw [qa, qb] at hg; cases hg
    | some dy =>
      rw [qa, qb] at hg
      have hg : ((f dx dy).bind asB).bind (fun k => if k then (gc' ρ).bind fun z => f' dy z else some (.bl false)) = some d := hg
      cases qf : f dx dy with
      | none => rw [qf] at hg; cases hg
      | some z =>
        rw [qf] at hg
        cases qz : asB z with
        | none => rw [show (some z).bind asB = asB z from rfl, qz] at hg; cases hg
        | some kk =>
          rw [show (some z).bind asB = asB z from rfl, qz] at hg
          rw [asB_some qz] at qf
          refine ⟨F, ρ, dx, rr, qa, fun x F1 H1 e1 p1 => ⟨F1, ρ, dy, rr.ext e1, qb, fun y F2 H2 e2 p2 => ?_⟩⟩
          refine hr F2 H2 x y dx dy _ _ e2.fh (p1.mono e2.ff e2.hh) p2 qf fun v F3 H3 e3 p3 => ⟨kk, p3, ?_⟩
          have hg : (if kk = true then (gc' ρ).bind fun z => f' dy z else some (.bl false)) = some d := hg
          cases kk with
          | false => rw [if_neg (by decide)] at hg; cases hg; exact iteF (k _ F3 H3 (e1.trans (e2.trans e3)) rfl)
          | true =>
            rw [if_pos rfl] at hg
            refine iteT ?_
            cases qc : gc' ρ with
            | none => rw [qc] at hg; cases hg
            | some dz =>
              rw [qc] at hg
              refine ⟨F3, ρ, dz, rr.ext (e1.trans (e2.trans e3)), qc, fun w F4 H4 e4 p4 => ?_⟩
              exact hr' F4 H4 y w dy dz d Q e4.fh ((p2.mono e3.ff e3.hh).mono e4.ff e4.hh) p4 hg fun v F5 H5 e5 p5 => k v F5 H5 (e1.trans (e2.trans (e3.trans (e4.trans e5)))) p5
theorem de_chain {op op' : CmpOp} {r r' : R2} {f f' : D -> D -> Option D} (ho : OpR X (compareOp op) r) (ho' : OpR X (compareOp op') r') (hr : OkR X.kw r (pE X.kw) f) (hr' : OkR X.kw r' (pE X.kw) f') (ha : DR X B a ga) (hb : DR X B b gb) (hc : DR X B c gc')
    (hm : lastMarks [op, op'] [b, c] = false := by with_unfolding_all rfl) : DE X B (.Compare a [op, op'] [b, c] pos) (g3 f f' ga gb gc') :=
  pe_imp (pe_chain ho ho' ha hb hc hm) fun σ H Q h => chain_ok hr hr' h
theorem dt_chain {op op' : CmpOp} {r r' : R2} {f f' : D -> D -> Option D} (ho : OpR X (compareOp op) r) (ho' : OpR X (compareOp op') r') (hr : OkR X.kw r (pE X.kw) f) (hr' : OkR X.kw r' (pE X.kw) f') (ha : DR X B a ga) (hb : DR X B b gb) (hc : DR X B c gc')
    (hm : lastMarks [op, op'] [b, c] = false := by with_unfolding_all rfl) : DT X B (.Compare a [op, op'] [b, c] pos) (gb' (g3 f f' ga gb gc')) :=
  pt_imp (pt_chain ho ho' ha hb hc hm) fun σ H Q ⟨F, ρ, c, rr, hg, k⟩ => by
    unfold gb' at hg
    cases q : g3 f f' ga gb gc' ρ with
    | none => rw [q] at hg; cases hg
    | some d =>
      rw [q] at hg
      rw [asB_some (show asB d = some c from hg)] at q
      exact chain_ok hr hr' ⟨F, ρ, _, rr, q, fun v F' H' e p => ⟨c, p, k F' H' e⟩⟩
def gNil : EnvD -> Option (List D) := fun _ => some []
def gCons' (g : EnvD -> Option D) (gs : EnvD -> Option (List D)) : EnvD -> Option (List D) := fun ρ => (g ρ).bind fun d => (gs ρ).bind fun ds => some (d :: ds)
variable {g : EnvD -> Option D} {gs : EnvD -> Option (List D)}
theorem das_nil : DAs X B [] gNil := pa_imp pa_nil fun σ H Q ⟨F, ρ, ds, r, hg, k⟩ => by cases hg; exact k [] F H (.refl r.fh) .nil
theorem drs_nil : DRs X B [] gNil := pa_imp pa_nil fun σ H Q ⟨F, ρ, ds, r, hg, k⟩ => by cases hg; exact k [] F H (.refl r.fh) .nil
theorem bind2 {α β γ : Type} {o : Option α} {p : Option β} {f : α -> β -> Option γ} {z : γ} (h : (o.bind fun x => p.bind fun y => f x y) = some z) : ∃ x y, o = some x /\ p = some y /\ f x y = some z := by
  cases o with
  | none => cases h
  | some x =>
    cases p with
    | none => cases h
    | some y => exact ⟨x, y, rfl, rfl, h⟩
theorem das_cons (ha : DE X B e g) (hr : DAs X B es gs) (hs : starEach (e :: es) X.env = (false, eval e X.env) :: starEach es X.env := by rfl) : DAs X B (e :: es) (gCons' g gs) :=
  pa_imp (pa_cons ha hr hs) fun σ H Q ⟨F, ρ, ds, r, hg, k⟩ => by
    obtain ⟨d, dr, q1, q2, q3⟩ := bind2 hg
    cases q3
    exact ⟨F, ρ, d, r, q1, fun v F1 H1 e1 p1 => ⟨F1, ρ, dr, r.ext e1, q2, fun vs F2 H2 e2 p2 => k _ F2 H2 (e1.trans e2) (.cons (Rp.mono e2.ff p1) p2)⟩⟩
theorem drs_cons (ha : DR X B e g) (hr : DRs X B es gs) (hs : starEach (e :: es) X.env = (false, eval e X.env) :: starEach es X.env := by rfl) : DRs X B (e :: es) (gCons' g gs) :=
  pa_imp (pa_cons ha hr hs) fun σ H Q ⟨F, ρ, ds, r, hg, k⟩ => by
    obtain ⟨d, dr, q1, q2, q3⟩ := bind2 hg
    cases q3
    exact ⟨F, ρ, d, r, q1, fun v F1 H1 e1 p1 => ⟨F1, ρ, dr, r.ext e1, q2, fun vs F2 H2 e2 p2 => k _ F2 H2 (e1.trans e2) (.cons (p1.mono e2.ff e2.hh) p2)⟩⟩
theorem rps_of {K : KW} {F : Hp} : ∀ {ds : List D} {vs : List V}, Paired (fun d v => Rp K F d v) ds vs -> Rps K F ds vs
  | _, _, .nil => rfl
  | _, _, .cons r t => ⟨_, _, rfl, r, rps_of t⟩
def gTup' (gs : EnvD -> Option (List D)) : EnvD -> Option D := fun ρ => (gs ρ).bind fun ds => if ds.length <= TOP then some (.tup ds) else none
def gLst (gs : EnvD -> Option (List D)) : EnvD -> Option (List D) := fun ρ => (gs ρ).bind fun ds => if ds.length <= TOP then some ds else none
theorem de_tup {x1} (h : DAs X B es gs) : DE X B (.Tuple es x1 pos) (gTup' gs) :=
  pe_imp (pe_tup h) fun σ H Q ⟨F, ρ, d, r, hg, k⟩ => by
    unfold gTup' at hg
    cases q : gs ρ with
    | none => rw [q] at hg; cases hg
    | some ds =>
      rw [q] at hg
      have hg : (if ds.length <= TOP then some (D.tup ds) else none) = some d := hg
      split at hg
      · rename_i hc
        cases hg
        refine ⟨F, ρ, ds, r, q, fun vs F1 H1 e1 p1 => ⟨top_line (by rw [<- (rps_of p1).length]; exact hc), fun p hp => ?_⟩⟩
        exact k _ (upd F1 p (.tup vs)) _ (e1.trans (.newF e1.fh hp)) ⟨p, vs, rfl, upd_same, (rps_of p1).mono (same_upd (e1.fh.free hp))⟩
      · cases hg
theorem da_lst (h : DAs X B es gs) : DA X B (.List es pos) (gLst gs) :=
  pe_imp (pe_lst h) fun σ H Q ⟨F, ρ, d, r, hg, k⟩ => by
    unfold gLst at hg
    cases q : gs ρ with
    | none => rw [q] at hg; cases hg
    | some ds =>
      rw [q] at hg
      have hg : (if ds.length <= TOP then some ds else none) = some d := hg
      split at hg
      · rename_i hc
        cases hg
        refine ⟨F, ρ, _, r, q, fun vs F1 H1 e1 p1 => ⟨top_line (by rw [<- (rps_of p1).length]; exact hc), fun p hp => ?_⟩⟩
        exact k _ F1 _ (e1.trans (.new e1.fh hp)) ⟨p, vs, rfl, e1.hh.free hp, upd_same, e1.fh.free hp, rps_of p1⟩
      · cases hg
def lO (K : KW) (B : Bs) (g : EnvD -> Option (Option Int)) : TO := fun σ H Q => ∃ F ρ i, Rep K B F σ H ρ /\ g ρ = some i /\ ∀ F' H', Ext F H F' H' -> Q i H'
def DO (X : Cx) (B : Bs) (e : Option Expr) (g : EnvD -> Option (Option Int)) : Prop := PO X e (lO X.kw B g)
theorem po_imp {e : Option Expr} {t t' : TO} (h : PO X e t) (k : ∀ σ H Q, t' σ H Q -> t σ H Q) : PO X e t' := fun pins s σ H Q I q => h pins s σ H Q I (k σ H Q q)
def gNone : EnvD -> Option (Option Int) := fun _ => some none
theorem do_none : DO X B none gNone := po_imp po_none fun σ H Q ⟨F, ρ, i, r, hg, k⟩ => by cases hg; exact k F H (.refl r.fh)
def asI : D -> Option Int
  | .int i => some i
  | _ => none
theorem asI_some {d : D} {i : Int} (h : asI d = some i) : d = .int i := by cases d <;> cases h; rfl
def gSome (g : EnvD -> Option D) : EnvD -> Option (Option Int) := fun ρ => (g ρ).bind fun d => (asI d).map some
theorem do_some (h : DR X B e g) : DO X B (some e) (gSome g) := po_imp (po_some h) fun σ H Q ⟨F, ρ, i, r, hg, k⟩ => by
  unfold gSome at hg
  cases q : g ρ with
  | none => rw [q] at hg; cases hg
  | some d =>
    rw [q] at hg
    cases q2 : asI d with
    | none => rw [show (some d).bind (fun d => (asI d).map some) = (asI d).map some from rfl, q2] at hg; cases hg
    | some j =>
      rw [show (some d).bind (fun d => (asI d).map some) = (asI d).map some from rfl, q2] at hg
      cases hg
      rw [asI_some q2] at q
      exact ⟨F, ρ, _, r, q, fun v F1 H1 e1 p1 => ⟨j, p1.int, k F1 H1 e1⟩⟩
def cutD {α : Type} (xs : List α) (lo hi : Option Int) : List α := (xs.drop (HT.sIx xs.length 0 lo)).take (HT.sIx xs.length xs.length hi - HT.sIx xs.length 0 lo)
def gSl (g : EnvD -> Option D) (gl gh : EnvD -> Option (Option Int)) : EnvD -> Option (List D) := fun ρ => (g ρ).bind fun d => (gl ρ).bind fun l => (gh ρ).bind fun h => match d with
  | .lst ds => some (cutD ds l h)
  | _ => none
theorem da_slice {lo hi : Option Expr} {gl gh : EnvD -> Option (Option Int)} {p2 : Pos} (he : DR X B e g) (hl : DO X B lo gl) (hh : DO X B hi gh) : DA X B (.Subscript e (.Slice lo hi none p2) pos) (gSl g gl gh) :=
  pe_imp (pe_slice sl_list he hl hh) fun σ H Q ⟨F, ρ, d, r, hg, k⟩ => by
    unfold gSl at hg
    cases q : g ρ with
    | none => rw [q] at hg; cases hg
    | some x =>
      cases ql : gl ρ with
      | none => rw [q, ql] at hg; cases hg
      | some l =>
        cases qh : gh ρ with
        | none => rw [q, ql, qh] at hg; cases hg
        | some h =>
          rw [q, ql, qh] at hg
          cases x with
          | lst ds =>
            cases hg
            refine ⟨F, ρ, _, r, q, fun v F1 H1 e1 p1 => ⟨F1, ρ, l, r.ext e1, ql, fun F2 H2 e2 => ⟨F2, ρ, h, r.ext (e1.trans e2), qh, fun F3 H3 e3 => ?_⟩⟩⟩
            have e := e1.trans (e2.trans e3)
            obtain ⟨a, vs, rfl, h1, h2⟩ := ((p1.mono e2.ff e2.hh).mono e3.ff e3.hh).lst e3.fh
            refine ⟨a, vs, rfl, .of h1, fun p hp => k _ F3 _ (e.trans (.new e.fh hp)) ⟨p, _, rfl, e.hh.free hp, upd_same, e.fh.free hp, ?_⟩⟩
            unfold cutD cutV
            rw [<- h2.length]
            exact (h2.drop _).take _
          | _ => cases hg
def CallOk {γ : Type} (K : KW) (r : List V -> Hp -> VK -> Prop) (pc : Post γ) (f : List D -> Option γ) : Prop :=
  ∀ F H vs ds d Q, Same F H -> Paired (fun d v => Rq K F H d v) ds vs -> f ds = some d -> (∀ v F' H', Ext F H F' H' -> pc F H F' H' d v -> Q v H') -> r vs H Q
def gB {γ : Type} (f : List D -> Option γ) (gs : EnvD -> Option (List D)) : EnvD -> Option γ := fun ρ => (gs ρ).bind f
theorem callB {γ : Type} {r : List V -> Hp -> VK -> Prop} {pc : Post γ} {f : List D -> Option γ} (hb : Back pc) (hr : CallOk X.kw r pc f) {σ : St} {H : Hp} {Q : VK} (h : lG X.kw B pc (gB f gs) σ H Q) : tCB r (lAs X.kw B (pR X.kw) gs) σ H Q := by
  obtain ⟨F, ρ, d, rr, hg, k⟩ := h
  unfold gB at hg
  cases q : gs ρ with
  | none => rw [q] at hg; cases hg
  | some ds =>
    rw [q] at hg
    exact ⟨F, ρ, ds, rr, q, fun vs F1 H1 e1 p1 => hr F1 H1 vs ds d Q e1.fh p1 hg fun v F' H' e p => k v F' H' (e1.trans e) (hb _ _ _ _ _ _ _ _ e1 p)⟩
variable {x : Str} {p : Pos} {id T : String}
theorem de_callB {r : List V -> Hp -> VK -> Prop} {f : List D -> Option D} (hc : CallR X (.builtin id) r) (hr : CallOk X.kw r (pE X.kw) f) (hg : Gl X x) (hm : X.mg x = none) (hv : bootBuiltins x = some (.builtin id)) (ha : DRs X B (e :: es) gs) (hn : x ≠ "__name__" := by decide) (hdb : (x == ("__debug__" : Str)) = false := by decide)
    (he : starEach (e :: es) X.env = (false, eval e X.env) :: starEach es X.env := by rfl) (hpl : (backTo pos (starEach es X.env)).any (·.1) = false := by rfl) : DE X B (.Call (.Name x p) (e :: es) [] pos) (gB f gs) :=
  pe_imp (pe_callB hc hg hm hv ha hn hdb he hpl) fun σ H Q h => callB back_E hr h
theorem da_callTy {r : List V -> Hp -> VK -> Prop} {f : List D -> Option (List D)} (hc : CallR X (.type T) r) (hr : CallOk X.kw r (pA X.kw) f) (hg : Gl X x) (hm : X.mg x = none) (hv : bootBuiltins x = some (.type T)) (ha : DRs X B (e :: es) gs) (hn : x ≠ "__name__" := by decide) (hdb : (x == ("__debug__" : Str)) = false := by decide)
    (he : starEach (e :: es) X.env = (false, eval e X.env) :: starEach es X.env := by rfl) (hpl : (backTo pos (starEach es X.env)).any (·.1) = false := by rfl) : DA X B (.Call (.Name x p) (e :: es) [] pos) (gB f gs) :=
  pe_imp (pe_callTy hc hg hm hv ha hn hdb he hpl) fun σ H Q h => callB back_A hr h
theorem de_callTy {r : List V -> Hp -> VK -> Prop} {f : List D -> Option D} (hc : CallR X (.type T) r) (hr : CallOk X.kw r (pE X.kw) f) (hg : Gl X x) (hm : X.mg x = none) (hv : bootBuiltins x = some (.type T)) (ha : DRs X B (e :: es) gs) (hn : x ≠ "__name__" := by decide) (hdb : (x == ("__debug__" : Str)) = false := by decide)
    (he : starEach (e :: es) X.env = (false, eval e X.env) :: starEach es X.env := by rfl) (hpl : (backTo pos (starEach es X.env)).any (·.1) = false := by rfl) : DE X B (.Call (.Name x p) (e :: es) [] pos) (gB f gs) :=
  pe_imp (pe_callTy hc hg hm hv ha hn hdb he hpl) fun σ H Q h => callB back_E hr h
def fLen : List D -> Option D
  | [.lst ds] => some (.int ds.length)
  | [.tup ds] => some (.int ds.length)
  | [.scr ns] => some (.int ns.length)
  | [.str x] => if x.length <= TOP then some (.int x.length) else none
  | _ => none
theorem pair1 {R : D -> V -> Prop} {d : D} {vs : List V} (h : Paired R [d] vs) : ∃ v, vs = [v] /\ R d v := by
  cases h with
  | cons r t => cases t; exact ⟨_, rfl, r⟩
theorem pair2 {R : D -> V -> Prop} {d d' : D} {vs : List V} (h : Paired R [d, d'] vs) : ∃ v v', vs = [v, v'] /\ R d v /\ R d' v' := by
  cases h with
  | cons r t =>
    obtain ⟨v', rfl, r'⟩ := pair1 t
    exact ⟨_, v', rfl, r, r'⟩
theorem ok_len {K : KW} : CallOk K (fun xs H Q => ∃ x n, xs = [x] /\ LenV K x H n /\ Q (.int n) H) (pE K) fLen := by
  intro F H vs ds d Q s hp e k
  unfold fLen at e
  split at e
  · cases e
    obtain ⟨v, rfl, r⟩ := pair1 hp
    obtain ⟨a, ws, rfl, h1, h2⟩ := r.lst s
    exact ⟨_, _, rfl, .inl ⟨ws, .of h1, h2.length⟩, k _ F H (.refl s) rfl⟩
  · cases e
    obtain ⟨v, rfl, r⟩ := pair1 hp
    obtain ⟨a, ws, rfl, h1, h2⟩ := r.tup s
    exact ⟨_, _, rfl, .inr ⟨ws, .of h1, h2.length⟩, k _ F H (.refl s) rfl⟩
  · cases e
    obtain ⟨v, rfl, r⟩ := pair1 hp
    obtain ⟨a, rfl, h1⟩ := r.scr s
    exact ⟨_, _, rfl, .inl ⟨_, h1, by simp⟩, k _ F H (.refl s) rfl⟩
  · split at e
    · rename_i hc
      cases e
      obtain ⟨v, rfl, r⟩ := pair1 hp
      cases r.str
      exact ⟨_, _, rfl, ⟨top_line hc, rfl⟩, k _ F H (.refl s) rfl⟩
    · cases e
  · cases e
def fMin : List D -> Option D
  | [.int i, .int j] => some (.int (if j < i then j else i))
  | _ => none
theorem ok_min {K : KW} : CallOk K (fun xs H Q => ∃ i j, xs = [.int i, .int j] /\ Q (.int (if j < i then j else i)) H) (pE K) fMin := by
  intro F H vs ds d Q s hp e k
  unfold fMin at e
  split at e
  · cases e
    obtain ⟨v, v', rfl, r, r'⟩ := pair2 hp
    cases r.int; cases r'.int
    exact ⟨_, _, rfl, k _ F H (.refl s) rfl⟩
  · cases e
end
section
variable {X : Cx} {B : Bs} {e a b c : Expr} {es : List Expr} {pos p p2 : Pos} {g ga gb : EnvD -> Option D} {gs : EnvD -> Option (List D)}
def tyD : D -> Option String
  | .non => some "NoneType"
  | .bl _ => some "bool"
  | .int _ => some "int"
  | .str _ => some "str"
  | .lst _ => some "list"
  | .tup _ => some "tuple"
  | .scr _ => none
  | .obj _ _ _ => none
  | .emp => some "dict"
def subT (t T : String) : Option Bool := if t = T then some true else if t = "bool" /\ T = "int" then some true else if (t ∈ ["NoneType", "bool", "int", "str", "list", "tuple", "dict"]) /\ (T ∈ ["bool", "int", "str", "list", "tuple", "dict"]) then some false else none
theorem ty_of {K : KW} {F H : Hp} (s : Same F H) {d : D} {v : V} {t : String} (r : Rq K F H d v) (h : tyD d = some t) : TyOf K H v (.type t) := by
  cases d with
  | non => cases r.non; cases h; exact .non
  | bl x => cases r.bl; cases h; exact .bl x
  | int x => cases r.int; cases h; exact .int x
  | str x => cases r.str; cases h; exact .str x
  | lst ds => obtain ⟨a, vs, rfl, q, _⟩ := r.lst s; cases h; exact .lst q
  | tup ds => obtain ⟨a, vs, rfl, q, _⟩ := r.tup s; cases h; exact .tup q
  | scr ns => cases h
  | obj C f ds => cases h
  | emp => obtain ⟨a, rfl, q⟩ := r.one fun _ z => (nomatch z); cases h; exact .dK (s _ _ q)
def gIs (T : String) (g : EnvD -> Option D) : EnvD -> Option D := fun ρ => (g ρ).bind fun d => (tyD d).bind fun t => (subT t T).map D.bl
theorem call_isinst {T : String} (hk : ∀ t b, subT t T = some b -> PySem.W.kitOne X.kw (.type t) (.type T) = some b) :
    CallR X (.builtin "isinstance") (fun xs H Q => ∃ x t b, xs = [x, .ty T] /\ TyOf X.kw H x (.type t) /\ subT t T = some b /\ Q (.bl b) H) := by
  intro pins s σ H vs us Q I r h
  obtain ⟨x, t, b, rfl, ty, hb, q⟩ := h
  obtain ⟨u, w, rfl, ru, rw'⟩ := vals2 r
  cases rw'
  exact isinst_ok I ru ty (hk t b hb) fun tk => ⟨.bl b, H, I.tok tk, rfl, q⟩
theorem de_isinst {T : String} {x : Str} (hk : ∀ t b, subT t T = some b -> PySem.W.kitOne X.kw (.type t) (.type T) = some b) (hg : Gl X "isinstance") (hm : X.mg "isinstance" = none) (hgT : Gl X x) (hmT : X.mg x = none) (hvT : bootBuiltins x = some (.type T)) (ha : DR X B a g)
    (hnT : x ≠ "__name__" := by decide) (hdT : (x == ("__debug__" : Str)) = false := by decide)
    (he : starEach [a, .Name x p2] X.env = (false, eval a X.env) :: starEach [.Name x p2] X.env := by rfl) (he2 : starEach [.Name x p2] X.env = (false, eval (.Name x p2) X.env) :: starEach [] X.env := by rfl) (hpl : (backTo pos (starEach [.Name x p2] X.env)).any (·.1) = false := by rfl) :
    DE X B (.Call (.Name "isinstance" p) [a, .Name x p2] [] pos) (gIs T g) :=
  pe_imp (pe_callB (call_isinst (T := T) hk) hg hm (by decide +kernel) (pa_cons ha (pa_cons (pe_bltn hgT hmT hvT (v := .ty T) rfl hnT hdT) pa_nil he2) he) (by decide) (by decide) he hpl) fun σ H Q ⟨F, ρ, d, r, hg, k⟩ => by
    unfold gIs at hg
    cases q : g ρ with
    | none => rw [q] at hg; cases hg
    | some x =>
      rw [q] at hg
      have hg : ((tyD x).bind fun t => (subT t T).map D.bl) = some d := hg
      cases q2 : tyD x with
      | none => rw [q2] at hg; cases hg
      | some t =>
        rw [q2] at hg
        have hg : (subT t T).map D.bl = some d := hg
        cases q3 : subT t T with
        | none => rw [q3] at hg; cases hg
        | some y =>
          rw [q3] at hg
          cases hg
          exact ⟨F, ρ, x, r, q, fun v F1 H1 e1 p1 => ⟨v, t, y, rfl, ty_of e1.fh p1 q2, q3, k _ F1 H1 e1 rfl⟩⟩
theorem call_allL (hc : X.calm = true) : CallR X (.builtin "all") (fun xs H Q => ∃ (a : Addr) (bs : List Bool), xs = [.ref a] /\ SqL X.kw H a (bs.map V.bl) /\ Q (.bl (bs.all fun x => x)) H) := by
  intro pins s σ H vs us Q I r h
  obtain ⟨a, bs, rfl, hq, q⟩ := h
  obtain ⟨u, rfl, ru⟩ := vals1 r
  cases ru
  obtain ⟨its, rv, pl, hz⟩ := I.list hq
  have hlt : a < s.heap.objs.size := let ⟨o, n, e, _⟩ := pl; Heap.lt_size e
  have hl : bs.length = its.length := by have := rv.length; simpa using this
  refine call_all_walk (wpAny_pyIter_list pl.isList ⟨s.heap.objs.size, _, _, _, _, _, fun i => bs.getD i false, rfl, Walks.list (A := X.A.in1) (I.ok.hd hc) s.heap.objs.size a (Nat.ne_of_lt hlt) its.toArray, ⟨⟨_, Heap.get?_push_size _ rfl, rfl, rfl⟩, ?_⟩, ?_, fun h' tk hk => ?_⟩)
  · obtain ⟨o, n, e, c1, c2, c3⟩ := pl
    exact ⟨o, Heap.get?_push_of_some _ e, c1, n, c3⟩
  · intro i v s' Q' E' hv hq'
    have hv : its[i]? = some v := by simpa using hv
    have hi : i < bs.length := by rw [hl]; exact (List.getElem?_eq_some_iff.mp hv).1
    have hb : (bs.map V.bl)[i]? = some (.bl bs[i]) := by simp [hi]
    obtain ⟨u, hu, ru⟩ := rv.get hb
    rw [hv] at hu; cases hu
    cases ru
    have e : bs.getD i false = bs[i] := by simp [List.getD, hi]
    have hq' : Q' (bs.getD i false) s' := hq'
    rw [e] at hq'
    exact wpAny_truthy_bool hq'
  · have e : ((List.range its.toArray.size).all fun i => bs.getD i false) = bs.all fun x => x := by
      rw [List.size_toArray, <- hl, Bool.eq_iff_iff]
      simp only [List.all_eq_true, List.mem_range]
      constructor
      · intro h x hx
        obtain ⟨i, hi, e⟩ := List.mem_iff_getElem.mp hx
        have := h i hi
        simpa [List.getD, hi, e] using this
      · intro h i hi
        have := h bs[i] (List.getElem_mem hi)
        simpa [List.getD, hi] using this
    rw [e]
    refine ⟨.bl (bs.all fun x => x), H, I.kept (t' := tk) fun b o e => hk b o (fun z => ?_) (Heap.get?_push_of_some _ e), rfl, q⟩
    have : b = s.heap.objs.size := by simpa using z
    exact absurd (Heap.lt_size e) (by rw [this]; exact Nat.lt_irrefl _)
def asBs : List D -> Option (List Bool)
  | [] => some []
  | .bl b :: r => (asBs r).map (b :: ·)
  | _ => none
theorem asBs_rps {K : KW} {F : Hp} : ∀ {ds : List D} {vs : List V} {bs : List Bool}, asBs ds = some bs -> Rps K F ds vs -> vs = bs.map V.bl
  | [], _, _, e, h => by cases e; cases h; rfl
  | .bl b :: r, _, _, e, ⟨v, w, e1, h, t⟩ => by
    subst e1; cases h
    cases q : asBs r with
    | none => rw [show asBs (.bl b :: r) = (asBs r).map (b :: ·) from rfl, q] at e; cases e
    | some bs =>
      rw [show asBs (.bl b :: r) = (asBs r).map (b :: ·) from rfl, q] at e
      cases e
      rw [asBs_rps q t]; rfl
  | .non :: _, _, _, e, _ => by cases e
  | .int _ :: _, _, _, e, _ => by cases e
  | .str _ :: _, _, _, e, _ => by cases e
  | .lst _ :: _, _, _, e, _ => by cases e
  | .tup _ :: _, _, _, e, _ => by cases e
  | .scr _ :: _, _, _, e, _ => by cases e
  | .obj _ _ _ :: _, _, _, e, _ => by cases e
  | .emp :: _, _, _, e, _ => by cases e
def fAll : List D -> Option D
  | [.lst ds] => (asBs ds).map fun bs => .bl (bs.all fun x => x)
  | _ => none
theorem ok_all {K : KW} : CallOk K (fun xs H Q => ∃ (a : Addr) (bs : List Bool), xs = [.ref a] /\ SqL K H a (bs.map V.bl) /\ Q (.bl (bs.all fun x => x)) H) (pE K) fAll := by
  intro F H vs ds d Q s hp e k
  unfold fAll at e
  split at e
  · rename_i ds
    obtain ⟨v, rfl, r⟩ := pair1 hp
    obtain ⟨a, ws, rfl, h1, h2⟩ := r.lst s
    cases q : asBs ds with
    | none => rw [q] at e; cases e
    | some bs =>
      rw [q] at e
      cases e
      have := asBs_rps q h2
      subst this
      exact ⟨a, bs, rfl, .of h1, k _ F H (.refl s) rfl⟩
  · cases e
theorem call_listL : CallR X (.type "list") (fun xs H Q => ∃ a vs, xs = [.ref a] /\ (SqL X.kw H a vs ∨ SqT X.kw H a vs) /\ ∀ p, H p = none -> Q (.ref p) (upd H p (.lst vs))) := by
  intro pins s σ H vs us Q I r h
  obtain ⟨a, ws, rfl, hq, q⟩ := h
  obtain ⟨u, rfl, ru⟩ := vals1 r
  cases ru
  have fin : ∀ {T : String} {o : Obj} {its : List Value} {n : Nat}, (T = "list" ∨ T = "tuple") -> s.heap.get? a = some o -> o.cls = .type T -> o.data = .seq its.toArray n -> Vals ws its -> ws.length <= sizeLine -> wpAny (model X.prog X.w) X.A (call (.type "list") [.ref a]) (EP X pins σ Q) X.xe s := by
    intro T o its n hT ho hc hd rv hz
    have hl := rv.length
    refine call_list_seq a hT ho hc hd (fun h' c' hk hn => ?_) (by rw [List.size_toArray, <- hl]; exact hz)
    exact ⟨.ref s.heap.objs.size, upd H s.heap.objs.size (.lst ws), I.laid (t' := s.toks) hk (Nat.le_refl _) ⟨hz, its, c', rv, hn⟩, rfl, q _ (I.hok.fresh (Nat.le_refl _))⟩
  rcases hq with hq | hq
  · obtain ⟨its, rv, ⟨o, n, e, c1, c2, c3⟩, hz⟩ := I.list hq
    exact fin (.inl rfl) e c1 c3 rv hz
  · obtain ⟨its, rv, ⟨o, e, c1, n, c3⟩, hz⟩ := I.tuple hq
    exact fin (.inr rfl) e c1 c3 rv hz
def fList : List D -> Option (List D)
  | [.lst ds] => some ds
  | [.tup ds] => some ds
  | [.scr ns] => some (ns.map D.int)
  | _ => none
theorem ok_list {K : KW} : CallOk K (fun xs H Q => ∃ a vs, xs = [.ref a] /\ (SqL K H a vs ∨ SqT K H a vs) /\ ∀ p, H p = none -> Q (.ref p) (upd H p (.lst vs))) (pA K) fList := by
  intro F H vs ds d Q s hp e k
  unfold fList at e
  split at e
  · cases e
    obtain ⟨v, rfl, r⟩ := pair1 hp
    obtain ⟨a, ws, rfl, h1, h2⟩ := r.lst s
    exact ⟨a, ws, rfl, .inl (.of h1), fun p hp => k _ F _ (.new s hp) ⟨p, ws, rfl, hp, upd_same, s.free hp, h2⟩⟩
  · cases e
    obtain ⟨v, rfl, r⟩ := pair1 hp
    obtain ⟨a, ws, rfl, h1, h2⟩ := r.tup s
    exact ⟨a, ws, rfl, .inr (.of h1), fun p hp => k _ F _ (.new s hp) ⟨p, ws, rfl, hp, upd_same, s.free hp, h2⟩⟩
  · cases e
    obtain ⟨v, rfl, r⟩ := pair1 hp
    obtain ⟨a, rfl, h1⟩ := r.scr s
    exact ⟨a, _, rfl, .inl h1, fun p hp => k _ F _ (.new s hp) ⟨p, _, rfl, hp, upd_same, s.free hp, Rps.ints _⟩⟩
  · cases e
def ArgE (K : KW) (F H : Hp) : En -> V -> Prop
  | .val d, v => Rp K F d v
  | .bor ds, v => ∃ a vs, v = .ref a /\ H a = some (.lst vs) /\ Rps K F ds vs
  | .dbo kvs, v => ∃ a ob vs, v = .ref a /\ H a = some (DX K.w a ob vs) /\ Rkv K F kvs vs
  | .exn a, v => v = .ref a
  | _, _ => False
theorem ArgE.ext {K : KW} {F H F' H' : Hp} (e : Ext F H F' H') : ∀ {x : En} {v : V}, ArgE K F H x v -> ArgE K F' H' x v
  | .val _, _, h => Rp.mono e.ff h
  | .bor _, _, ⟨a, vs, e1, e2, e3⟩ => ⟨a, vs, e1, e.hh _ _ e2, e3.mono e.ff⟩
  | .acc _, _, h => h
  | .oac _ _ _ _ _, _, h => h
  | .tre _, _, h => h
  | .dct _ _, _, h => h
  | .dbo _, _, ⟨a, ob, vs, e1, e2, e3⟩ => ⟨a, ob, vs, e1, e.hh _ _ e2, e3.mono e.ff⟩
  | .exn _, _, h => h
def pN (K : KW) : Post En := fun _ _ F' H' x v => ArgE K F' H' x v
def DN (X : Cx) (B : Bs) (e : Expr) (g : EnvD -> Option En) : Prop := PE X e (lG X.kw B (pN X.kw) g)
def lNs (K : KW) (B : Bs) (g : EnvD -> Option (List En)) : TA := fun σ H Q =>
  ∃ F ρ xs, Rep K B F σ H ρ /\ g ρ = some xs /\ ∀ vs F' H', Ext F H F' H' -> Paired (fun x v => ArgE K F' H' x v) xs vs -> Q vs H'
def DNs (X : Cx) (B : Bs) (es : List Expr) (g : EnvD -> Option (List En)) : Prop := PA X es (lNs X.kw B g)
def gVal (g : EnvD -> Option D) : EnvD -> Option En := fun ρ => (g ρ).map En.val
theorem dn_val (h : DE X B e g) : DN X B e (gVal g) := pe_imp h fun σ H Q ⟨F, ρ, x, r, hg, k⟩ => by
  unfold gVal at hg
  cases q : g ρ with
  | none => rw [q] at hg; cases hg
  | some d => rw [q] at hg; cases hg; exact ⟨F, ρ, d, r, q, fun v F' H' e p => k v F' H' e p⟩
def gn (i : Nat) : EnvD -> Option En := fun ρ => match ρ[i]? with
  | some (some (.val d)) => some (.val d)
  | some (some (.acc ds)) => some (.bor ds)
  | some (some (.bor ds)) => some (.bor ds)
  | some (some (.dct _ kvs)) => some (.dbo kvs)
  | some (some (.dbo kvs)) => some (.dbo kvs)
  | _ => none
theorem dn_var (i : Nat) {x : Str} (h : PE X (.Name x pos) (tVar i)) : DN X B (.Name x pos) (gn i) :=
  pe_imp h fun σ H Q ⟨F, ρ, d, r, hg, k⟩ => by
    unfold gn at hg
    split at hg
    · rename_i d' e
      cases hg
      obtain ⟨v, h1, h2⟩ := r.ents i _ e
      exact ⟨v, h1, k v F H (.refl r.fh) h2⟩
    · rename_i ds e
      cases hg
      obtain ⟨v, h1, a, vs, e1, e2, e3, e4, e5⟩ := r.ents i _ e
      exact ⟨v, h1, k v F H (.refl r.fh) ⟨a, vs, e1, e2, e5⟩⟩
    · rename_i ds e
      cases hg
      obtain ⟨v, h1, a, vs, e1, e2, e5⟩ := r.ents i _ e
      exact ⟨v, h1, k v F H (.refl r.fh) ⟨a, vs, e1, r.ex.hh _ _ e2, e5⟩⟩
    · rename_i oa kvs e
      cases hg
      obtain ⟨v, h1, a, ob, vs, e1, e2, e3, e4, e5, e6⟩ := r.ents i _ e
      exact ⟨v, h1, k v F H (.refl r.fh) ⟨a, ob, vs, e1, e2, e5⟩⟩
    · rename_i kvs e
      cases hg
      obtain ⟨v, h1, a, ob, vs, e1, e2, e5⟩ := r.ents i _ e
      exact ⟨v, h1, k v F H (.refl r.fh) ⟨a, ob, vs, e1, r.ex.hh _ _ e2, e5⟩⟩
    · cases hg
def nNil : EnvD -> Option (List En) := fun _ => some []
def nCons (g : EnvD -> Option En) (gs : EnvD -> Option (List En)) : EnvD -> Option (List En) := fun ρ => (g ρ).bind fun d => (gs ρ).bind fun ds => some (d :: ds)
variable {gx : EnvD -> Option En} {gxs : EnvD -> Option (List En)}
theorem dns_nil : DNs X B [] nNil := pa_imp pa_nil fun σ H Q ⟨F, ρ, ds, r, hg, k⟩ => by cases hg; exact k [] F H (.refl r.fh) .nil
theorem dns_cons (ha : DN X B e gx) (hr : DNs X B es gxs) (hs : starEach (e :: es) X.env = (false, eval e X.env) :: starEach es X.env := by rfl) : DNs X B (e :: es) (nCons gx gxs) :=
  pa_imp (pa_cons ha hr hs) fun σ H Q ⟨F, ρ, ds, r, hg, k⟩ => by
    obtain ⟨d, dr, q1, q2, q3⟩ := bind2 hg
    cases q3
    exact ⟨F, ρ, d, r, q1, fun v F1 H1 e1 p1 => ⟨F1, ρ, dr, r.ext e1, q2, fun vs F2 H2 e2 p2 => k _ F2 H2 (e1.trans e2) (.cons (ArgE.ext e2 p1) p2)⟩⟩
def pSp (K : KW) (n : Nat) (m : List En -> Option En) : Sp := fun vs H Q _ =>
  ∃ F xs o, Same F H /\ xs.length = n /\ Paired (fun x v => ArgE K F H x v) xs vs /\ m xs = some o /\ ∀ v F' H', Ext F H F' H' -> RepE K ⟨F, H⟩ F' H' o v -> Q v H'
def frzO : En -> Option D
  | .val d => some d
  | .acc ds => some (.lst ds)
  | .tre t => some t.erase
  | _ => none
def accO : En -> Option (List D)
  | .acc ds => some ds
  | _ => none
theorem frzO_ok {K : KW} {F H F' H' : Hp} {o : En} {d : D} {v : V} (hd : frzO o = some d) (e : Ext F H F' H') (r : RepE K ⟨F, H⟩ F' H' o v) : ∃ F2, Ext F H F2 H' /\ Rp K F2 d v := by
  cases o with
  | val x => cases hd; exact ⟨F', e, r⟩
  | acc ds =>
    cases hd
    obtain ⟨a, vs, rfl, h1, h2, h3, h4⟩ := r
    exact ⟨upd F' a (.lst vs), e.freeze h3 h2 h1, ⟨a, vs, rfl, upd_same, h4.mono (same_upd h2)⟩⟩
  | tre t =>
    cases hd
    obtain ⟨r1, r2, r3⟩ := r
    have sf : Same F' (addF F' H' (feetO H' t v)) := same_addF fun a ha => (r3 a ha).1
    refine ⟨addF F' H' (feetO H' t v), ⟨e.ff.trans sf, e.hh, fun b u q => ?_, fun b q => ?_⟩, RepO.fz sf r1 fun a ha => ha⟩
    · unfold addF at q
      split at q
      · exact q
      · exact e.fh b u q
    · unfold addF at q
      split at q
      · rename_i hb; exact .inr (r3 b hb).2
      · exact e.nw b q
  | _ => cases hd
def gCall {α : Type} (m : List En -> Option En) (f : En -> Option α) (gs : EnvD -> Option (List En)) : EnvD -> Option α := fun ρ => ((gs ρ).bind m).bind f
theorem bindC {α : Type} {m : List En -> Option En} {f : En -> Option α} {gs : EnvD -> Option (List En)} {ρ : EnvD} {y : α} (h : gCall m f gs ρ = some y) : ∃ xs o, gs ρ = some xs /\ m xs = some o /\ f o = some y := by
  unfold gCall at h
  cases q : gs ρ with
  | none => rw [q] at h; cases h
  | some xs =>
    rw [q] at h
    cases q2 : m xs with
    | none => rw [show (some xs).bind m = m xs from rfl, q2] at h; cases h
    | some o => rw [show (some xs).bind m = m xs from rfl, q2] at h; exact ⟨xs, o, rfl, q2, h⟩
theorem paired_len {α β : Type} {R : α -> β -> Prop} {l : List α} {r : List β} (h : Paired R l r) : l.length = r.length := Paired.length h
theorem call_E {n : Nat} {m : List En -> Option En} (hm : ∀ xs o, m xs = some o -> xs.length = n) {E : XK} {σ : St} {H : Hp} {Q : VK} (h : lG X.kw B (pE X.kw) (gCall m frzO gxs) σ H Q) : tCall (pSp X.kw n m) [] E (lNs X.kw B gxs) σ H Q := by
  obtain ⟨F, ρ, d, r, hg, k⟩ := h
  obtain ⟨xs, o, q1, q2, q3⟩ := bindC hg
  refine ⟨F, ρ, xs, r, q1, fun vs F1 H1 e1 p1 => ?_⟩
  show pSp X.kw n m (vs ++ []) H1 Q E
  rw [List.append_nil]
  refine ⟨F1, xs, o, e1.fh, hm xs o q2, p1, q2, fun v F2 H2 e2 p2 => ?_⟩
  obtain ⟨F3, e3, p3⟩ := frzO_ok q3 e2 p2
  exact k v F3 H2 (e1.trans e3) p3
theorem call_A {n : Nat} {m : List En -> Option En} (hm : ∀ xs o, m xs = some o -> xs.length = n) {E : XK} {σ : St} {H : Hp} {Q : VK} (h : lG X.kw B (pA X.kw) (gCall m accO gxs) σ H Q) : tCall (pSp X.kw n m) [] E (lNs X.kw B gxs) σ H Q := by
  obtain ⟨F, ρ, d, r, hg, k⟩ := h
  obtain ⟨xs, o, q1, q2, q3⟩ := bindC hg
  refine ⟨F, ρ, xs, r, q1, fun vs F1 H1 e1 p1 => ?_⟩
  show pSp X.kw n m (vs ++ []) H1 Q E
  rw [List.append_nil]
  refine ⟨F1, xs, o, e1.fh, hm xs o q2, p1, q2, fun v F2 H2 e2 p2 => ?_⟩
  cases o with
  | acc ds =>
    cases q3
    obtain ⟨a, ws, h1, h2, h3, h4, h5⟩ := p2
    exact k v F2 H2 (e1.trans e2) ⟨a, ws, h1, e1.hh.free h4, h2, h3, h5⟩
  | _ => cases q3
def len? (n : Nat) (m : List En -> Option En) : List En -> Option En := fun xs => if xs.length = n then m xs else none
theorem len_of {n : Nat} {m : List En -> Option En} : ∀ xs o, len? n m xs = some o -> xs.length = n := fun xs o h => by
  unfold len? at h
  split at h
  · assumption
  · cases h
variable {x mm : Str} {f C : Addr} {fd : FuncData} {ps : List Str} {n k : Nat} {m : List En -> Option En} {apos : Pos} {o : Expr}
theorem de_call (F : FnOk X.prog X.w X.kw X.mg X.base CX0 k f fd ps (pSp X.kw n (len? n m))) (hr : Room k X.A) (hg : Gl X x) (hm : X.mg x = some (.ref f)) (hk : PySem.W.keepIn X.kw (.ref f) = true) (hb : Binds X.kw fd ps [])
    (ha : DNs X B (e :: es) gxs) (hdb : (x == ("__debug__" : Str)) = false := by decide) (he : starEach (e :: es) X.env = (false, eval e X.env) :: starEach es X.env := by rfl) (hpl : (backTo pos (starEach es X.env)).any (·.1) = false := by rfl) :
    DE X B (.Call (.Name x p) (e :: es) [] pos) (gCall (len? n m) frzO gxs) :=
  pe_imp (pe_call F hr hg hm hk hb .nil pass0 ha hdb he hpl) fun σ H Q h => call_E len_of h
theorem da_call (F : FnOk X.prog X.w X.kw X.mg X.base CX0 k f fd ps (pSp X.kw n (len? n m))) (hr : Room k X.A) (hg : Gl X x) (hm : X.mg x = some (.ref f)) (hk : PySem.W.keepIn X.kw (.ref f) = true) (hb : Binds X.kw fd ps [])
    (ha : DNs X B (e :: es) gxs) (hdb : (x == ("__debug__" : Str)) = false := by decide) (he : starEach (e :: es) X.env = (false, eval e X.env) :: starEach es X.env := by rfl) (hpl : (backTo pos (starEach es X.env)).any (·.1) = false := by rfl) :
    DA X B (.Call (.Name x p) (e :: es) [] pos) (gCall (len? n m) accO gxs) :=
  pe_imp (pe_call F hr hg hm hk hb .nil pass0 ha hdb he hpl) fun σ H Q h => call_A len_of h
end
section
variable {X : Cx} {B : Bs} {e a b c o : Expr} {es : List Expr} {pos p apos : Pos} {g ga gb : EnvD -> Option D} {gx : EnvD -> Option En} {gxs : EnvD -> Option (List En)} {C f : Addr} {fl mm x : Str} {fd : FuncData} {ps : List Str} {n k : Nat} {m : List En -> Option En}
def iSp (K : KW) (C : Addr) (n : Nat) (mi : Addr -> Addr -> List En -> Option (List Str × List D)) : Sp := fun vs H Q _ =>
  ∃ F H1 xs x dx vs' fs ds, vs = .ref x :: vs' /\ H1 x = none /\ H1 dx = none /\ dx ≠ x /\ H = upd (upd H1 dx (.own x)) x (.ins C dx []) /\ Same F H1 /\ xs.length = n /\ Paired (fun y v => ArgE K F H1 y v) xs vs' /\ mi x dx xs = some (fs, ds) /\
    ∀ F' H' us, Ext F H1 F' H' -> F' x = none -> H' x = some (.ins C dx (fs.zip us)) -> fs.length = us.length -> Rps K F' ds us -> Q .non H'
end
inductive Fl where
  | next (ρ : EnvD) | ret (o : En) | brk (ρ : EnvD) | cont (ρ : EnvD)
def Fl.ok (K : KW) (B : Bs) (F : Hp) (E : Ends) : Fl -> Prop
  | .next ρ => ∀ σ' F' H', Rep K B F' σ' H' ρ -> Same F F' -> E.nx σ' H'
  | .brk ρ => ∀ σ' F' H', Rep K B F' σ' H' ρ -> Same F F' -> E.bk σ' H'
  | .cont ρ => ∀ σ' F' H', Rep K B F' σ' H' ρ -> Same F F' -> E.ct σ' H'
  | .ret o => ∀ v F' H', Ext B.F0 B.H0 F' H' -> RepE K B F' H' o v -> E.rt v H'
abbrev SD := EnvD -> Option Fl
def lS (K : KW) (B : Bs) (g : SD) : TS := fun E σ H => ∃ F ρ fl, Rep K B F σ H ρ /\ g ρ = some fl /\ fl.ok K B F E
def DS (X : Cx) (B : Bs) (st : Stmt) (g : SD) : Prop := PS X st (lS X.kw B g)
def DSs (X : Cx) (B : Bs) (sts : List Stmt) (g : SD) : Prop := PSs X sts (lS X.kw B g)
theorem Fl.ok.mono {K : KW} {B : Bs} {F F' : Hp} {E : Ends} {fl : Fl} (s : Same F F') (h : fl.ok K B F E) : fl.ok K B F' E := by
  cases fl with
  | next ρ => exact fun σ' F2 H' r s2 => h σ' F2 H' r (s.trans s2)
  | brk ρ => exact fun σ' F2 H' r s2 => h σ' F2 H' r (s.trans s2)
  | cont ρ => exact fun σ' F2 H' r s2 => h σ' F2 H' r (s.trans s2)
  | ret o => exact h
section
variable {X : Cx} {B : Bs} {e a b c o : Expr} {es : List Expr} {st : Stmt} {rest : List Stmt} {pos p apos : Pos} {g ga gb : EnvD -> Option D} {gl : EnvD -> Option (List D)} {gs1 gs2 : SD} {x : Str}
def sSeq (g1 g2 : SD) : SD := fun ρ => (g1 ρ).bind fun fl => match fl with
  | .next ρ' => g2 ρ'
  | fl => some fl
def sNext : SD := fun ρ => some (.next ρ)
theorem dss_nil : DSs X B [] sNext := pss_imp pss_nil fun E σ H ⟨F, ρ, fl, r, hg, k⟩ => by cases hg; exact k σ F H r (Same.refl _)
theorem dss_one (h : DS X B st gs1) : DSs X B [st] gs1 := pss_one h
theorem dss_cons (h1 : DS X B st gs1) (h2 : DSs X B rest gs2) : DSs X B (st :: rest) (sSeq gs1 gs2) :=
  pss_imp (pss_cons h1 h2) fun E σ H ⟨F, ρ, fl, r, hg, k⟩ => by
    unfold sSeq at hg
    cases q : gs1 ρ with
    | none => rw [q] at hg; cases hg
    | some f1 =>
      rw [q] at hg
      refine ⟨F, ρ, f1, r, q, ?_⟩
      cases f1 with
      | next ρ' => exact fun σ' F' H' r' s' => ⟨F', ρ', fl, r', hg, k.mono s'⟩
      | brk ρ' => cases hg; exact k
      | cont ρ' => cases hg; exact k
      | ret o' => cases hg; exact k
def sSet (i : Nat) (g : EnvD -> Option D) : SD := fun ρ => (g ρ).map fun d => .next (ρ.set i (some (.val d)))
def sSetA (i : Nat) (g : EnvD -> Option (List D)) : SD := fun ρ => (g ρ).map fun ds => .next (ρ.set i (some (.acc ds)))
theorem set_ok {i : Nat} {E : Ends} {σ : St} {H : Hp} (h : lS X.kw B (sSet i g) E σ H) : tAsg (lG X.kw B (pE X.kw) g) (gName i) E σ H := by
  obtain ⟨F, ρ, fl, r, hg, k⟩ := h
  unfold sSet at hg
  cases q : g ρ with
  | none => rw [q] at hg; cases hg
  | some d =>
    rw [q] at hg
    cases hg
    exact ⟨F, ρ, d, r, q, fun v F1 H1 e1 p1 => k _ F1 H1 ((r.ext e1).setv p1) e1.ff⟩
theorem setA_ok {i : Nat} {E : Ends} {σ : St} {H : Hp} (h : lS X.kw B (sSetA i gl) E σ H) : tAsg (lG X.kw B (pA X.kw) gl) (gName i) E σ H := by
  obtain ⟨F, ρ, fl, r, hg, k⟩ := h
  unfold sSetA at hg
  cases q : gl ρ with
  | none => rw [q] at hg; cases hg
  | some ds =>
    rw [q] at hg
    cases hg
    refine ⟨F, ρ, ds, r, q, fun v F1 H1 e1 p1 => k _ F1 H1 ((r.ext e1).seto ?_ ?_) e1.ff⟩
    · obtain ⟨a, vs, h1, h2, h3, h4, h5⟩ := p1
      exact ⟨a, vs, h1, h3, h4, r.ex.hh.free h2, h5⟩
    · intro j y w hj hs _ b hb hc
      obtain ⟨a, vs, h1, h2, h3, h4, h5⟩ := p1
      subst h1
      simp only [feetE, List.mem_singleton] at hb
      subst hb
      obtain ⟨w', hw, hr⟩ := r.ents j y hj
      rw [hs] at hw; cases hw
      rw [hr.feet_ext e1.hh] at hc
      exact (hr.feet_at hc).1 h2
theorem ds_set {i : Nat} {x : Str} {pos' : Pos} (hN : X.N.Nodup) (hi : X.N[i]? = some x) (hx : Loc X.env.scope x) (he : DE X B e g) (hs : swapsWith e (some (.Name x pos')) pos.line X.env = pure false := by rfl) (hf : X.fn x = true ∨ X.env.scope.names.lookup x = some .local := by first | exact .inl rfl | exact .inr rfl | assumption) :
    DS X B (.Assign [.Name x pos'] e pos) (sSet i g) := ps_imp (ps_set hN hi hx he hs hf) fun E σ H h => set_ok h
theorem ds_setA {i : Nat} {x : Str} {pos' : Pos} (hN : X.N.Nodup) (hi : X.N[i]? = some x) (hx : Loc X.env.scope x) (he : DA X B e gl) (hs : swapsWith e (some (.Name x pos')) pos.line X.env = pure false := by rfl) (hf : X.fn x = true ∨ X.env.scope.names.lookup x = some .local := by first | exact .inl rfl | exact .inr rfl | assumption) :
    DS X B (.Assign [.Name x pos'] e pos) (sSetA i gl) := ps_imp (ps_set hN hi hx he hs hf) fun E σ H h => setA_ok h
def sRet (g : EnvD -> Option D) : SD := fun ρ => (g ρ).map fun d => .ret (.val d)
def sRetA (g : EnvD -> Option (List D)) : SD := fun ρ => (g ρ).map fun d => .ret (.acc d)
theorem ds_ret (he : DE X B e g) : DS X B (.Return (some e) pos) (sRet g) := ps_imp (ps_ret he) fun E σ H ⟨F, ρ, fl, r, hg, k⟩ => by
  unfold sRet at hg
  cases q : g ρ with
  | none => rw [q] at hg; cases hg
  | some d => rw [q] at hg; cases hg; exact ⟨F, ρ, d, r, q, fun v F1 H1 e1 p1 => k v F1 H1 (r.ex.trans e1) p1⟩
theorem ds_retA (he : DA X B e gl) : DS X B (.Return (some e) pos) (sRetA gl) := ps_imp (ps_ret he) fun E σ H ⟨F, ρ, fl, r, hg, k⟩ => by
  unfold sRetA at hg
  cases q : gl ρ with
  | none => rw [q] at hg; cases hg
  | some d =>
    rw [q] at hg; cases hg
    refine ⟨F, ρ, d, r, q, fun v F1 H1 e1 p1 => k v F1 H1 (r.ex.trans e1) ?_⟩
    obtain ⟨a, vs, h1, h2, h3, h4, h5⟩ := p1
    exact ⟨a, vs, h1, h3, h4, r.ex.hh.free h2, h5⟩
def sRetV (i : Nat) : SD := fun ρ => match ρ[i]? with
  | some (some (.acc ds)) => some (.ret (.acc ds))
  | some (some (.val d)) => some (.ret (.val d))
  | _ => none
theorem ds_retV (i : Nat) (h : PE X (.Name x p) (tVar i)) : DS X B (.Return (some (.Name x p)) pos) (sRetV i) := ps_imp (ps_ret h) fun E σ H ⟨F, ρ, fl, r, hg, k⟩ => by
  unfold sRetV at hg
  split at hg
  · rename_i ds q
    cases hg
    obtain ⟨v, h1, h2⟩ := r.ents i _ q
    exact ⟨v, h1, k v F H r.ex h2⟩
  · rename_i d q
    cases hg
    obtain ⟨v, h1, h2⟩ := r.ents i _ q
    exact ⟨v, h1, k v F H r.ex h2⟩
  · cases hg
def sIf (t : EnvD -> Option Bool) (g1 g2 : SD) : SD := fun ρ => (t ρ).bind fun b => if b then g1 ρ else g2 ρ
theorem ds_if {t : EnvD -> Option Bool} {as bs : List Stmt} (hc : DT X B c t) (ha : DSs X B as gs1) (hb : DSs X B bs gs2) : DS X B (.If c as bs pos) (sIf t gs1 gs2) := ps_imp (ps_if hc ha hb) fun E σ H ⟨F, ρ, fl, r, hg, k⟩ => by
  unfold sIf at hg
  cases q : t ρ with
  | none => rw [q] at hg; cases hg
  | some b =>
    rw [q] at hg
    refine ⟨F, ρ, b, r, q, fun F1 H1 e1 => ?_⟩
    cases b with
    | true => exact iteT ⟨F1, ρ, fl, r.ext e1, hg, k.mono e1.ff⟩
    | false => exact iteF ⟨F1, ρ, fl, r.ext e1, hg, k.mono e1.ff⟩
def sNever : SD := fun _ => none
theorem ds_never : DS X B st sNever := ps_imp ps_never fun E σ H ⟨F, ρ, fl, r, hg, k⟩ => by cases hg
def sApp (i : Nat) (g : EnvD -> Option D) : SD := fun ρ => match ρ[i]? with
  | some (some (.acc ds)) => (g ρ).bind fun d => if ds.length <= TOP then some (.next (ρ.set i (some (.acc (ds ++ [d]))))) else none
  | _ => none
theorem ds_app (i : Nat) {cpos : Pos} (hx : PE X (.Name x p) (tVar i)) (he : DE X B e g)
    (hbase : attributeBase (.Name x p) "append" X.env (eval (.Name x p) X.env) = eval (.Name x p) X.env := by rfl)
    (hfew : ((backTo cpos (starEach [e] X.env)).all (fun x => !x.1) && (backToKw cpos (keywordEach [] X.env)).all (fun x => x.1.isSome)
      && decide (([e] : List Expr).length + ([] : List Keyword).length + (if ([] : List Keyword).isEmpty then 0 else 1) < 30)) = true := by rfl)
    (hline : (apos.endLine == cpos.line) = true := by rfl) (hs : starEach [e] X.env = (false, eval e X.env) :: starEach [] X.env := by rfl) (hplain : (backTo cpos (starEach [] X.env)).any (·.1) = false := by rfl)
    (hsw : swapsWith (.Call (.Attribute (.Name x p) "append" apos) [e] [] cpos) none pos.line X.env = pure false := by rfl) :
    DS X B (.Expr (.Call (.Attribute (.Name x p) "append" apos) [e] [] cpos) pos) (sApp i g) :=
  ps_imp (ps_expr (pe_bm PySem.F.plainAttrs_list PySem.F.slot_list_append PySem.F.type_list_append mt_append hx (pa_cons he pa_nil hs) hbase hfew hline hs hplain) hsw) fun E σ H ⟨F, ρ, fl, r, hg, k⟩ => by
    unfold sApp at hg
    split at hg
    · rename_i ds q
      cases q2 : g ρ with
      | none => rw [q2] at hg; cases hg
      | some d =>
        rw [q2] at hg
        have hg : (if ds.length <= TOP then some (Fl.next (ρ.set i (some (.acc (ds ++ [d]))))) else none) = some fl := hg
        split at hg
        · rename_i hl
          cases hg
          obtain ⟨v, hv, a, vs, rfl, h1, h2, h3, h4⟩ := r.ents i _ q
          refine ⟨.ref a, hv, .inl ⟨rfl, _, .of h1⟩, F, ρ, d, r, q2, fun w F1 H1 e1 p1 => ?_⟩
          have r1 := r.ext e1
          obtain ⟨v', hv', a', vs', e', g1, g2, g3, g4⟩ := r1.ents i _ q
          rw [hv] at hv'; cases hv'; cases e'
          refine ⟨a, vs', w, rfl, rfl, g1, top_line' (by rw [<- g4.length]; exact hl), k σ F1 _ (r1.write q rfl hv g2 g3 ⟨a, _, rfl, upd_same, g2, g3, g4.snoc p1⟩ rfl) e1.ff⟩
        · cases hg
    · cases hg
end
inductive Tgt where
  | name (i : Nat) | tup (is : List Nat)
def gNames : List Nat -> TGs
  | [] => L2.gNil
  | i :: is => gCons (gName i) (gNames is)
def tgT (K : KW) : Tgt -> TG
  | .name i => gName i
  | .tup is => gTup K is.length (gNames is)
def setMany : List Nat -> List D -> EnvD -> EnvD
  | i :: is, d :: ds, ρ => setMany is ds (ρ.set i (some (.val d)))
  | _, _, ρ => ρ
def asgD : Tgt -> D -> EnvD -> Option EnvD
  | .name i, d, ρ => some (ρ.set i (some (.val d)))
  | .tup is, .tup ds, ρ => if ds.length = is.length then some (setMany is ds ρ) else none
  | _, _, _ => none
inductive SetOf : List Nat -> St -> St -> Prop
  | refl {is σ} : SetOf is σ σ
  | step {is σ σ' i v} : i ∈ is -> SetOf is (σ.set i v) σ' -> SetOf is σ σ'
def Tgt.slots : Tgt -> List Nat
  | .name i => [i]
  | .tup is => is
theorem SetOf.pre {is : List Nat} {σ σ' : St} (h : SetOf is σ σ') : ∀ {σ1 cv : St}, σ = σ1 ++ cv -> (∀ i ∈ is, i < σ1.length) -> ∃ σ1', σ1'.length = σ1.length /\ σ' = σ1' ++ cv := by
  induction h with
  | refl => intro σ1 cv e _; exact ⟨σ1, rfl, e⟩
  | @step σ σ' i v hi _ ih =>
    intro σ1 cv e hl
    obtain ⟨s, h1, h2⟩ := ih (σ1 := σ1.set i v) (cv := cv) (by rw [e, List.set_append_left _ _ (hl i hi)]) (fun j hj => by rw [List.length_set]; exact hl j hj)
    exact ⟨s, by rw [h1, List.length_set], h2⟩
theorem names_ok {K : KW} {B : Bs} {F H : Hp} {all : List Nat} : ∀ {is : List Nat} {ds : List D} {vs : List V} {σ : St} {ρ : EnvD} {Q : St -> Hp -> Prop}, Rep K B F σ H ρ -> Rps K F ds vs -> ds.length = is.length -> (∀ i ∈ is, i ∈ all) ->
    (∀ σ', Rep K B F σ' H (setMany is ds ρ) -> SetOf all σ σ' -> Q σ' H) -> gNames is vs σ H Q
  | [], [], _, σ, ρ, Q, r, h, _, _, k => by cases h; exact ⟨rfl, k σ r .refl⟩
  | [], _ :: _, _, _, _, _, _, _, hl, _, _ => by simp at hl
  | _ :: _, [], _, _, _, _, _, _, hl, _, _ => by simp at hl
  | i :: is, d :: ds, _, σ, ρ, Q, r, ⟨v, w, e, h, t⟩, hl, ha, k => by
    subst e
    refine ⟨v, w, rfl, ?_⟩
    exact names_ok (r.setv h) t (by simpa using hl) (fun j hj => ha j (List.mem_cons_of_mem _ hj)) fun σ' r' s' => k σ' r' (.step (ha i List.mem_cons_self) s')
theorem tg_ok {K : KW} {B : Bs} {F H : Hp} {t : Tgt} {d : D} {v : V} {σ : St} {ρ ρ' : EnvD} {Q : St -> Hp -> Prop} (r : Rep K B F σ H ρ) (h : Rp K F d v) (e : asgD t d ρ = some ρ') (k : ∀ σ', Rep K B F σ' H ρ' -> SetOf t.slots σ σ' -> Q σ' H) : tgT K t v σ H Q := by
  cases t with
  | name i => cases e; exact k _ (r.setv h) (.step (List.mem_singleton.mpr rfl) .refl)
  | tup is =>
    cases d with
    | tup ds =>
      have e : (if ds.length = is.length then some (setMany is ds ρ) else none) = some ρ' := e
      split at e
      · rename_i hl
        cases e
        obtain ⟨a, vs, rfl, h1, h2⟩ := h
        exact ⟨a, vs, rfl, .of (r.fh _ _ h1), by rw [<- h2.length]; exact hl, names_ok r h2 hl (fun i hi => hi) k⟩
      · cases e
    | _ => cases e
def Jok (K : KW) (Hb : Hp) (J : It) (F : Hp) (ds : List D) : Prop := ∀ F2 H2, Same F F2 -> Same F2 H2 -> Same Hb H2 -> ∀ i,
  (i < ds.length -> J.go i H2 /\ ∀ x H3, J.yld i H2 x H3 -> ∃ F3 d, Ext F2 H2 F3 H3 /\ ds[i]? = some d /\ Rp K F3 d x) /\ (i = ds.length -> J.stop i H2)
def lI (K : KW) (B : Bs) (hb : Hp -> Hp) (g : EnvD -> Option (List D)) : TI := fun σ H R => ∃ F ρ ds, Rep K B F σ H ρ /\ g ρ = some ds /\ ∀ J F' H', Ext F H F' H' -> Jok K (hb H') J F' ds -> R J H'
def DI (X : Cx) (B : Bs) (hb : Hp -> Hp) (tg iter : Expr) (g : EnvD -> Option (List D)) : Prop := PI X tg iter (lI X.kw B hb g)
def pQ (K : KW) (hb : Hp -> Hp) : Post D := fun _ _ F' H' d v => Rq K F' (hb H') d v
def DQ (X : Cx) (B : Bs) (hb : Hp -> Hp) (e : Expr) (g : EnvD -> Option D) : Prop := PE X e (lG X.kw B (pQ X.kw hb) g)
def HbOk (B : Bs) (hb : Hp -> Hp) : Prop := (∀ H, Same B.H0 H -> Same (hb H) H) /\ ∀ H H', Same H H' -> Same (hb H) (hb H')
theorem hb0 {B : Bs} : HbOk B (fun _ => B.H0) := ⟨fun _ h => h, fun _ _ _ => Same.refl _⟩
section
variable {X : Cx} {B : Bs} {hb : Hp -> Hp} {e a b c tg iter : Expr} {es : List Expr} {pos p : Pos} {g ga gb : EnvD -> Option D} {gi : EnvD -> Option (List D)} {gs gbd : SD} {x : Str}
def gf (i : Nat) : EnvD -> Option D := fun ρ => match ρ[i]? with
  | some (some (.val d)) => some d
  | some (some (.bor ds)) => some (.lst ds)
  | _ => none
theorem dq_var (i : Nat) (h : PE X (.Name x pos) (tVar i)) : DQ X B (fun _ => B.H0) (.Name x pos) (gf i) :=
  pe_imp h fun σ H Q ⟨F, ρ, d, r, hg, k⟩ => by
    unfold gf at hg
    split at hg
    · rename_i d' e
      cases hg
      obtain ⟨v, h1, h2⟩ := r.ents i _ e
      exact ⟨v, h1, k v F H (.refl r.fh) (.inl h2)⟩
    · rename_i ds e
      cases hg
      obtain ⟨v, h1, a, vs, e1, e2, e5⟩ := r.ents i _ e
      exact ⟨v, h1, k v F H (.refl r.fh) (.inr ⟨a, vs, ds, rfl, e1, e2, e5⟩)⟩
    · cases hg
def itL : D -> Option (List D)
  | .lst ds => some ds
  | .scr ns => some (ns.map D.int)
  | _ => none
theorem rq_items {K : KW} {F Hb : Hp} {d : D} {v : V} {ds : List D} (r : Rq K F Hb d v) (h : itL d = some ds) : ∃ a vs, v = .ref a /\ Rps K F ds vs /\ ∀ F2 H2, Same F F2 -> Same F2 H2 -> Same Hb H2 -> SqL K H2 a vs := by
  cases d with
  | lst es =>
    cases h
    rcases r with ⟨a, vs, rfl, q, t⟩ | ⟨a, vs, ds', e1, rfl, q, t⟩
    · exact ⟨a, vs, rfl, t, fun F2 H2 s1 s2 _ => .of (s2 _ _ (s1 _ _ q))⟩
    · cases e1; exact ⟨a, vs, rfl, t, fun F2 H2 _ _ s3 => .of (s3 _ _ q)⟩
  | scr ns =>
    cases h
    obtain ⟨a, rfl, q⟩ := r.one fun _ h => by cases h
    exact ⟨a, _, rfl, Rps.ints ns, fun F2 H2 s1 s2 _ => s2.seq (s1.seq q)⟩
  | _ => cases h
def gIt (g : EnvD -> Option D) : EnvD -> Option (List D) := fun ρ => (g ρ).bind itL
theorem di_list (hbk : HbOk B hb) (h : DQ X B hb e g) : DI X B hb tg e (gIt g) :=
  pi_imp (pi_list h) fun σ H R ⟨F, ρ, ds, r, hg, k⟩ => by
    unfold gIt at hg
    cases q : g ρ with
    | none => rw [q] at hg; cases hg
    | some d =>
      rw [q] at hg
      refine ⟨F, ρ, d, r, q, fun v F1 H1 e1 p1 => ?_⟩
      obtain ⟨a, vs, rfl, t, sq⟩ := rq_items p1 hg
      have r1 := r.ext e1
      refine ⟨a, rfl, ⟨vs, sq F1 H1 (Same.refl _) e1.fh (hbk.1 H1 r1.ex.hh)⟩, k _ F1 H1 e1 fun F2 H2 s1 s2 s3 i => ⟨fun hi => ?_, fun hi => ?_⟩⟩
      · have hq := sq F2 H2 s1 s2 s3
        have hiv : i < vs.length := by rw [<- t.length]; exact hi
        have hv : vs[i]? = some vs[i] := List.getElem?_eq_getElem hiv
        refine ⟨⟨vs, _, hq, hv⟩, fun x H3 hy => ?_⟩
        obtain ⟨rfl, hy⟩ := hy
        obtain ⟨d', hd, rd⟩ := t.get' (hy vs hq)
        exact ⟨F2, d', .refl s2, hd, rd.mono s1⟩
      · exact ⟨vs, sq F2 H2 s1 s2 s3, by rw [hi, t.length]; exact Nat.le_refl _⟩
def lQs (K : KW) (B : Bs) (hb : Hp -> Hp) (g : EnvD -> Option (List D)) : TA := fun σ H Q =>
  ∃ F ρ ds, Rep K B F σ H ρ /\ g ρ = some ds /\ ∀ vs F' H', Ext F H F' H' -> Paired (fun d v => Rq K F' (hb H') d v) ds vs -> Q vs H'
def DQs (X : Cx) (B : Bs) (hb : Hp -> Hp) (es : List Expr) (g : EnvD -> Option (List D)) : Prop := PA X es (lQs X.kw B hb g)
theorem dqs_nil : DQs X B hb [] gNil := pa_imp pa_nil fun σ H Q ⟨F, ρ, ds, r, hg, k⟩ => by cases hg; exact k [] F H (.refl r.fh) .nil
theorem dqs_cons (hbk : HbOk B hb) (ha : DQ X B hb e g) (hr : DQs X B hb es gi) (hs : starEach (e :: es) X.env = (false, eval e X.env) :: starEach es X.env := by rfl) : DQs X B hb (e :: es) (gCons' g gi) :=
  pa_imp (pa_cons ha hr hs) fun σ H Q ⟨F, ρ, ds, r, hg, k⟩ => by
    obtain ⟨d, dr, q1, q2, q3⟩ := bind2 hg
    cases q3
    exact ⟨F, ρ, d, r, q1, fun v F1 H1 e1 p1 => ⟨F1, ρ, dr, r.ext e1, q2, fun vs F2 H2 e2 p2 => k _ F2 H2 (e1.trans e2) (.cons (p1.mono e2.ff (hbk.2 _ _ e2.hh)) p2)⟩⟩
def enumD : Nat -> List D -> List D
  | _, [] => []
  | n, d :: ds => .tup [.int n, d] :: enumD (n + 1) ds
theorem enumD_length : ∀ (n : Nat) (ds : List D), (enumD n ds).length = ds.length
  | _, [] => rfl
  | n, _ :: ds => by simp [enumD, enumD_length (n + 1) ds]
theorem enumD_get : ∀ (n : Nat) (ds : List D) (i : Nat) (d : D), ds[i]? = some d -> (enumD n ds)[i]? = some (.tup [.int ((n + i : Nat) : Int), d])
  | _, [], _, _, h => by simp at h
  | n, x :: ds, 0, d, h => by simp at h; subst h; simp [enumD]
  | n, x :: ds, i + 1, d, h => by
    have := enumD_get (n + 1) ds i d (by simpa using h)
    simp only [enumD, List.getElem?_cons_succ, this]
    congr 5
    omega
def gEn (gs : EnvD -> Option (List D)) : EnvD -> Option (List D) := fun ρ => (gs ρ).bind fun xs => match xs with
  | [d] => (itL d).map (enumD 0)
  | _ => none
variable {elts : List Expr} {tk : Nat} {tpos : Pos}
theorem di_enum (hbk : HbOk B hb) (hg : Gl X "enumerate") (hm : X.mg "enumerate" = none) (ha : DQs X B hb [a] gi) (hs : starEach [a] X.env = [(false, eval a X.env)] := by rfl) :
    DI X B hb (.Tuple elts tk tpos) (.Call (.Name "enumerate" p) [a] [] pos) (gEn gi) :=
  pi_imp (pi_enum hg hm ha hs) fun σ H R ⟨F, ρ, ds, r, hg, k⟩ => by
    unfold gEn at hg
    cases q : gi ρ with
    | none => rw [q] at hg; cases hg
    | some xs =>
      rw [q] at hg
      refine ⟨F, ρ, xs, r, q, fun vs F1 H1 e1 p1 => ?_⟩
      match xs, hg, p1 with
      | [d], hg, p1 =>
        obtain ⟨v, rfl, rv⟩ := pair1 p1
        have hg : (itL d).map (enumD 0) = some ds := hg
        cases q2 : itL d with
        | none => rw [q2] at hg; cases hg
        | some es =>
          rw [q2] at hg
          cases hg
          obtain ⟨a, us, rfl, t, sq⟩ := rq_items rv q2
          have r1 := r.ext e1
          refine ⟨a, rfl, ⟨us, sq F1 H1 (Same.refl _) e1.fh (hbk.1 H1 r1.ex.hh)⟩, k _ F1 H1 e1 fun F2 H2 s1 s2 s3 i => ⟨fun hi => ?_, fun hi => ?_⟩⟩
          · rw [enumD_length] at hi
            have hq := sq F2 H2 s1 s2 s3
            have hiv : i < us.length := by rw [<- t.length]; exact hi
            have hv : us[i]? = some us[i] := List.getElem?_eq_getElem hiv
            refine ⟨⟨us, _, hq, hv⟩, fun x H3 hy => ?_⟩
            obtain ⟨T, w, nT, rfl, rfl, hy⟩ := hy
            obtain ⟨d', hd, rd⟩ := t.get' (hy us hq)
            refine ⟨upd F2 T (.tup [.int i, w]), _, .newF s2 nT, enumD_get 0 es i d' hd, ⟨T, _, rfl, upd_same, _, _, rfl, ?_, _, _, rfl, (rd.mono s1).mono (same_upd (s2.free nT)), rfl⟩⟩
            show V.int i = V.int ((0 + i : Nat) : Int)
            rw [Nat.zero_add]
          · exact ⟨us, sq F2 H2 s1 s2 s3, by rw [hi, enumD_length, t.length]; exact Nat.le_refl _⟩
def rngD (lo : Int) : Nat -> List D
  | 0 => []
  | n + 1 => .int lo :: rngD (lo + 1) n
theorem rngD_length : ∀ (lo : Int) (n : Nat), (rngD lo n).length = n
  | _, 0 => rfl
  | lo, n + 1 => by simp [rngD, rngD_length (lo + 1) n]
theorem rngD_get : ∀ (lo : Int) (n i : Nat), i < n -> (rngD lo n)[i]? = some (.int (lo + i))
  | _, 0, _, h => by omega
  | lo, n + 1, 0, _ => by simp [rngD]
  | lo, n + 1, i + 1, h => by
    have := rngD_get (lo + 1) n i (by omega)
    simp only [rngD, List.getElem?_cons_succ, this]
    congr 2
    omega
def BIG : Int := 1000000000000
def gR1 (gs : EnvD -> Option (List D)) : EnvD -> Option (List D) := fun ρ => (gs ρ).bind fun xs => match xs with
  | [.int j] => if -BIG <= j /\ j <= BIG then some (rngD 0 j.toNat) else none
  | _ => none
def gR2 (gs : EnvD -> Option (List D)) : EnvD -> Option (List D) := fun ρ => (gs ρ).bind fun xs => match xs with
  | [.int i, .int j] => if (-BIG <= i /\ i <= BIG) /\ (-BIG <= j /\ j <= BIG) then some (rngD i (j - i).toNat) else none
  | _ => none
theorem jok_rng {K : KW} {Hb F : Hp} (lo : Int) (n : Nat) : Jok K Hb (Itr lo n) F (rngD lo n) := fun F2 H2 s1 s2 s3 i => ⟨fun hi => by
  rw [rngD_length] at hi
  refine ⟨hi, fun x H3 hy => ?_⟩
  obtain ⟨rfl, rfl⟩ := hy
  exact ⟨F2, _, .refl s2, rngD_get lo n i hi, rfl⟩, fun hi => by rw [rngD_length] at hi; exact Nat.le_of_eq hi.symm⟩
theorem di_rng1 (hg : Gl X "range") (hm : X.mg "range" = none) (ha : DRs X B [a] gi) (hs : starEach [a] X.env = [(false, eval a X.env)] := by rfl) : DI X B hb tg (.Call (.Name "range" p) [a] [] pos) (gR1 gi) :=
  pi_imp (pi_range1 hg hm ha hs) fun σ H R ⟨F, ρ, ds, r, hg, k⟩ => by
    unfold gR1 at hg
    cases q : gi ρ with
    | none => rw [q] at hg; cases hg
    | some xs =>
      rw [q] at hg
      refine ⟨F, ρ, xs, r, q, fun vs F1 H1 e1 p1 => ?_⟩
      match xs, hg, p1 with
      | [.int j], hg, p1 =>
        obtain ⟨v, rfl, rv⟩ := pair1 p1
        cases rv.int
        have hg : (if -BIG <= j /\ j <= BIG then some (rngD 0 j.toNat) else none) = some ds := hg
        split at hg
        · rename_i hc
          cases hg
          unfold BIG at hc
          exact ⟨j, rfl, by omega, by omega, k _ F1 H1 e1 (jok_rng 0 _)⟩
        · cases hg
theorem di_rng2 (hg : Gl X "range") (hm : X.mg "range" = none) (ha : DRs X B [a, b] gi) (hs : starEach [a, b] X.env = [(false, eval a X.env), (false, eval b X.env)] := by rfl) (hs2 : starEach [b] X.env = [(false, eval b X.env)] := by rfl) : DI X B hb tg (.Call (.Name "range" p) [a, b] [] pos) (gR2 gi) :=
  pi_imp (pi_range2 hg hm ha hs hs2) fun σ H R ⟨F, ρ, ds, r, hg, k⟩ => by
    unfold gR2 at hg
    cases q : gi ρ with
    | none => rw [q] at hg; cases hg
    | some xs =>
      rw [q] at hg
      refine ⟨F, ρ, xs, r, q, fun vs F1 H1 e1 p1 => ?_⟩
      match xs, hg, p1 with
      | [.int i, .int j], hg, p1 =>
        obtain ⟨v, v', rfl, rv, rv'⟩ := pair2 p1
        cases rv.int
        cases rv'.int
        have hg : (if (-BIG <= i /\ i <= BIG) /\ (-BIG <= j /\ j <= BIG) then some (rngD i (j - i).toNat) else none) = some ds := hg
        split at hg
        · rename_i hc
          cases hg
          unfold BIG at hc
          exact ⟨i, j, rfl, ⟨by omega, by omega, by omega, by omega⟩, k _ F1 H1 e1 (jok_rng i _)⟩
        · cases hg
def forD (t : Tgt) (gb : SD) : List D -> EnvD -> Option Fl
  | [], ρ => some (.next ρ)
  | d :: ds, ρ => (asgD t d ρ).bind fun ρ1 => (gb ρ1).bind fun fl => match fl with
    | .next ρ2 => forD t gb ds ρ2
    | .cont ρ2 => forD t gb ds ρ2
    | .brk ρ2 => some (.next ρ2)
    | .ret o => some (.ret o)
def sFor (t : Tgt) (gi : EnvD -> Option (List D)) (gb : SD) : SD := fun ρ => (gi ρ).bind fun ds => forD t gb ds ρ
theorem ds_for {body : List Stmt} {t : Tgt} (hp : PassesOwn (model X.prog X.w) X.A X.env X.xe) (hc : X.calm = true) (hi : DI X B (fun _ => B.H0) tg iter gi) (hg : PG X tg (tgT X.kw t)) (hb : DSs X B body gbd)
    (hs : ∀ x, foldedSetIterable iter X.env x = pure x := by intro _; rfl) : DS X B (.For tg iter body [] pos) (sFor t gi gbd) :=
  ps_imp (ps_for hp hc hi hg hb hs) fun E σ H ⟨F, ρ, fl, r, hg, k⟩ => by
    unfold sFor at hg
    cases q : gi ρ with
    | none => rw [q] at hg; cases hg
    | some ds =>
      rw [q] at hg
      have hg : forD t gbd ds ρ = some fl := hg
      refine ⟨F, ρ, ds, r, q, fun J F1 H1 e1 jok => ?_⟩
      refine ⟨fun i m σ H => m = ds.length - i /\ i <= ds.length /\ ∃ F2 ρ2, Rep X.kw B F2 σ H ρ2 /\ Same F1 F2 /\ forD t gbd (ds.drop i) ρ2 = some fl, ⟨ds.length, rfl, Nat.zero_le _, F1, ρ, r.ext e1, Same.refl _, hg⟩, ?_⟩
      rintro i m σ2 H2 ⟨rfl, hi, F2, ρ2, r2, s2, h2⟩
      obtain ⟨j1, j2⟩ := jok F2 H2 s2 r2.fh r2.ex.hh i
      by_cases hlt : i < ds.length
      · obtain ⟨go, yl⟩ := j1 hlt
        refine .inr ⟨go, fun σ' H' => ∃ F3 ρ3, Rep X.kw B F3 σ' H' ρ3 /\ Same F1 F3 /\ forD t gbd (ds.drop (i + 1)) ρ3 = some fl, fun σ' H' ⟨F3, ρ3, r3, s3, h3⟩ => ⟨ds.length - (i + 1), by omega, rfl, hlt, F3, ρ3, r3, s3, h3⟩, fun x H3 hy => ?_⟩
        obtain ⟨F3, d, e3, hd, rd⟩ := yl x H3 hy
        have hdd : ds.drop i = d :: ds.drop (i + 1) := by
          rw [List.drop_eq_getElem_cons hlt]
          congr 1
          rw [List.getElem?_eq_getElem hlt] at hd
          exact Option.some.inj hd
        rw [hdd] at h2
        have h2 : ((asgD t d ρ2).bind fun ρ1 => (gbd ρ1).bind fun fl => match fl with
          | .next ρ2 => forD t gbd (ds.drop (i + 1)) ρ2
          | .cont ρ2 => forD t gbd (ds.drop (i + 1)) ρ2
          | .brk ρ2 => some (.next ρ2)
          | .ret o => some (.ret o)) = some fl := h2
        cases q1 : asgD t d ρ2 with
        | none => rw [q1] at h2; cases h2
        | some ρ3 =>
          rw [q1] at h2
          refine tg_ok (r2.ext e3) rd q1 fun σ' r4 _ => ?_
          cases q4 : gbd ρ3 with
          | none => rw [show (some ρ3).bind _ = (gbd ρ3).bind _ from rfl, q4] at h2; cases h2
          | some f1 =>
            rw [show (some ρ3).bind _ = (gbd ρ3).bind _ from rfl, q4] at h2
            refine ⟨F3, ρ3, f1, r4, q4, ?_⟩
            cases f1 with
            | next ρ5 => exact fun σ5 F5 H5 r5 s5 => ⟨F5, ρ5, r5, (s2.trans e3.ff).trans s5, h2⟩
            | cont ρ5 => exact fun σ5 F5 H5 r5 s5 => ⟨F5, ρ5, r5, (s2.trans e3.ff).trans s5, h2⟩
            | brk ρ5 => cases h2; exact fun σ5 F5 H5 r5 s5 => k σ5 F5 H5 r5 (e1.ff.trans ((s2.trans e3.ff).trans s5))
            | ret o => cases h2; exact k
      · have hi' : i = ds.length := by omega
        have hdd : ds.drop i = [] := by rw [hi', List.drop_length]
        rw [hdd] at h2
        cases h2
        exact .inl ⟨j2 hi', k σ2 F2 H2 r2 (e1.ff.trans s2)⟩
def capO : Option (Option En) -> Option En
  | some (some (.val d)) => some (.val d)
  | some (some (.acc ds)) => some (.bor ds)
  | some (some (.bor ds)) => some (.bor ds)
  | some (some (.dct _ kvs)) => some (.dbo kvs)
  | some (some (.dbo kvs)) => some (.dbo kvs)
  | _ => none
def capE (ρ : EnvD) (cap : List (Str × Nat)) : EnvD := cap.map fun p => capO ρ[p.2]?
def compD (t : Tgt) (tc : EnvD -> Option Bool) (ge : EnvD -> Option D) (ρ0 : EnvD) : List D -> Option (List D)
  | [] => some []
  | d :: ds => (asgD t d ρ0).bind fun ρ1 => (tc ρ1).bind fun b => if b then (ge ρ1).bind fun y => (compD t tc ge ρ0 ds).map (y :: ·) else compD t tc ge ρ0 ds
def gComp (own : List Str) (cap : List (Str × Nat)) (t : Tgt) (tc : EnvD -> Option Bool) (ge : EnvD -> Option D) (gi : EnvD -> Option (List D)) : EnvD -> Option (List D) := fun ρ =>
  (gi ρ).bind fun ds => if ds.length <= TOP then compD t tc ge (List.replicate own.length none ++ capE ρ cap) ds else none
def tYes : EnvD -> Option Bool := fun _ => some true
theorem yes_ok {K : KW} {B : Bs} {σ : St} {H : Hp} {Q : Bool -> Hp -> Prop} (h : lT K B tYes σ H Q) : tTrue σ H Q := by
  obtain ⟨F, ρ, b, r, hg, k⟩ := h
  cases hg
  exact k F H (.refl r.fh)
theorem pifs_imp {X : Cx} {ifs : List Expr} {t t' : TT} (h : PIfs X ifs t) (k : ∀ σ H Q, t' σ H Q -> t σ H Q) : PIfs X ifs t' := fun pins s σ H Q I q => h pins s σ H Q I (k σ H Q q)
def DIfs (X : Cx) (B : Bs) (ifs : List Expr) (g : EnvD -> Option Bool) : Prop := PIfs X ifs (lT X.kw B g)
theorem difs_nil : DIfs X B [] tYes := pifs_imp pifs_nil fun σ H Q h => yes_ok h
theorem cap_rep {K : KW} {B : Bs} {F F1 H H1 : Hp} {σ σ1 : St} {ρ : EnvD} {own : List Str} {cap : List (Str × Nat)} (r : Rep K B F σ H ρ) (e : Ext F H F1 H1) {F2 H2 : Hp} (e2 : Ext F1 H1 F2 H2) (hl : σ1.length = own.length) :
    Rep K ⟨F1, H1⟩ F2 (σ1 ++ cap.map fun p => (σ[p.2]?).getD none) H2 (List.replicate own.length none ++ capE ρ cap) := by
  have noown : ∀ i y, (List.replicate own.length none ++ capE ρ cap)[i]? = some (some y) -> ∃ p, cap[i - own.length]? = some p /\ own.length <= i /\ ((∃ d, y = .val d /\ ρ[p.2]? = some (some (.val d))) ∨ (∃ ds, y = .bor ds /\ ρ[p.2]? = some (some (.acc ds))) ∨ (∃ ds, y = .bor ds /\ ρ[p.2]? = some (some (.bor ds))) ∨ (∃ kvs, y = .dbo kvs /\ ∃ oa, ρ[p.2]? = some (some (.dct oa kvs))) ∨ ∃ kvs, y = .dbo kvs /\ ρ[p.2]? = some (some (.dbo kvs))) := by
    intro i y h
    by_cases hi : i < own.length
    · rw [List.getElem?_append_left (by simpa using hi), List.getElem?_replicate, if_pos hi] at h
      cases h
    · rw [List.getElem?_append_right (by simpa using hi), List.length_replicate] at h
      unfold capE at h
      rw [List.getElem?_map] at h
      cases q : cap[i - own.length]? with
      | none => rw [q] at h; cases h
      | some p =>
        rw [q] at h
        replace h : capO ρ[p.2]? = some y := Option.some.inj h
        refine ⟨p, rfl, by omega, ?_⟩
        unfold capO at h
        split at h
        · rename_i d q2; cases h; exact .inl ⟨d, rfl, q2⟩
        · rename_i ds q2; cases h; exact .inr (.inl ⟨ds, rfl, q2⟩)
        · rename_i ds q2; cases h; exact .inr (.inr (.inl ⟨ds, rfl, q2⟩))
        · rename_i oa ds q2; cases h; exact .inr (.inr (.inr (.inl ⟨ds, rfl, oa, q2⟩)))
        · rename_i ds q2; cases h; exact .inr (.inr (.inr (.inr ⟨ds, rfl, q2⟩)))
        · cases h
  refine ⟨e2, by simp [capE, hl], fun i y h => ?_, fun i j y z v w h1 h2 _ _ _ a ha _ => ?_⟩
  · obtain ⟨p, hp, hi, hy⟩ := noown i y h
    have slot : ∀ v, σ[p.2]? = some (some v) -> (σ1 ++ cap.map fun p => (σ[p.2]?).getD none)[i]? = some (some v) := fun v hv => by
      rw [List.getElem?_append_right (by rw [hl]; exact hi), hl, List.getElem?_map, hp]
      show some ((σ[p.2]?).getD none) = _
      rw [hv]; rfl
    rcases hy with ⟨d, rfl, q⟩ | ⟨ds, rfl, q⟩ | ⟨ds, rfl, q⟩ | ⟨ds, rfl, oa, q⟩ | ⟨ds, rfl, q⟩
    · obtain ⟨v, hv, h2⟩ := r.ents _ _ q
      exact ⟨v, slot v hv, Rp.mono (e.ff.trans e2.ff) h2⟩
    · obtain ⟨v, hv, a, vs, e1, g1, g2, g3, g4⟩ := r.ents _ _ q
      exact ⟨v, slot v hv, a, vs, e1, e.hh _ _ g1, g4.mono (e.ff.trans e2.ff)⟩
    · obtain ⟨v, hv, a, vs, e1, g1, g4⟩ := r.ents _ _ q
      exact ⟨v, slot v hv, a, vs, e1, e.hh _ _ (r.ex.hh _ _ g1), g4.mono (e.ff.trans e2.ff)⟩
    · obtain ⟨v, hv, a, ob, vs, e1, g1, g2, g3, g4, g5⟩ := r.ents _ _ q
      exact ⟨v, slot v hv, a, ob, vs, e1, e.hh _ _ g1, g4.mono (e.ff.trans e2.ff)⟩
    · obtain ⟨v, hv, a, ob, vs, e1, g1, g4⟩ := r.ents _ _ q
      exact ⟨v, slot v hv, a, ob, vs, e1, e.hh _ _ (r.ex.hh _ _ g1), g4.mono (e.ff.trans e2.ff)⟩
  · obtain ⟨p, _, _, hy⟩ := noown i y h1
    rcases hy with ⟨d, rfl, q⟩ | ⟨ds, rfl, q⟩ | ⟨ds, rfl, q⟩ | ⟨ds, rfl, oa, q⟩ | ⟨ds, rfl, q⟩ <;> cases ha
theorem da_comp {elt : Expr} {ifs : List Expr} {scope : Scope} {own : List Str} {cap : List (Str × Nat)} {t : Tgt} {tc : EnvD -> Option Bool} {ge : EnvD -> Option D} (hc : X.calm = true) (S : CompScope X scope own cap) (hi : DI X B (fun H => H) tg iter gi) (ht : ∀ i ∈ t.slots, i < own.length)
    (hin : ∀ (B' : Bs) C s₀ H₀ fp pn, PG (cxc X scope C (own ++ cap.map (·.1)) s₀ H₀ fp pn) tg (tgT X.kw t) /\ DIfs (cxc X scope C (own ++ cap.map (·.1)) s₀ H₀ fp pn) B' ifs tc /\ DE (cxc X scope C (own ++ cap.map (·.1)) s₀ H₀ fp pn) B' elt ge)
    (hs : ∀ x, foldedSetIterable iter X.env x = pure x := by intro _; rfl) :
    DA X B (.ListComp elt [⟨tg, iter, ifs, 0⟩] scope pos) (gComp own cap t tc ge gi) := by
  refine pe_imp (pe_lc (tc := fun σ H Q => ∃ B', lT X.kw B' tc σ H Q) (te := fun σ H Q => ∃ B', lG X.kw B' (pE X.kw) ge σ H Q) hc S hi (fun C s₀ H₀ fp pn => ⟨(hin ⟨H₀, H₀⟩ C s₀ H₀ fp pn).1, fun pins s σ H Q I ⟨B', q⟩ => (hin B' C s₀ H₀ fp pn).2.1 pins s σ H Q I q, fun pins s σ H Q I ⟨B', q⟩ => (hin B' C s₀ H₀ fp pn).2.2 pins s σ H Q I q⟩) hs) ?_
  intro σ H Q ⟨F, ρ, out, r, hg, k⟩
  unfold gComp at hg
  cases q : gi ρ with
  | none => rw [q] at hg; cases hg
  | some ds =>
    rw [q] at hg
    have hg : (if ds.length <= TOP then compD t tc ge (List.replicate own.length none ++ capE ρ cap) ds else none) = some out := hg
    split at hg
    · rename_i htop
      refine ⟨F, ρ, ds, r, q, fun J F1 H1 e1 jok => ?_⟩
      refine ⟨fun i m ys H2 => m = ds.length - i /\ i <= ds.length /\ ∃ F2 o1 o2, Ext F1 H1 F2 H2 /\ Rps X.kw F2 o1 ys /\ o1.length <= i /\ compD t tc ge (List.replicate own.length none ++ capE ρ cap) (ds.drop i) = some o2 /\ out = o1 ++ o2,
        ⟨ds.length, rfl, Nat.zero_le _, F1, [], out, .refl e1.fh, rfl, Nat.le_refl _, hg, rfl⟩, ?_⟩
      rintro i m ys H2 ⟨rfl, hi, F2, o1, o2, e2, ry, hl1, h2, rfl⟩
      refine ⟨top_line (by rw [<- ry.length]; omega), ?_⟩
      obtain ⟨j1, j2⟩ := jok F2 H2 e2.ff e2.fh e2.hh i
      by_cases hlt : i < ds.length
      · obtain ⟨go, yl⟩ := j1 hlt
        refine .inr ⟨go, fun ys' H' => ∃ F3 p1 p2, Ext F1 H1 F3 H' /\ Rps X.kw F3 p1 ys' /\ p1.length <= i + 1 /\ compD t tc ge (List.replicate own.length none ++ capE ρ cap) (ds.drop (i + 1)) = some p2 /\ o1 ++ o2 = p1 ++ p2, fun ys' H' ⟨F3, p1, p2, e3, r3, l3, h3, eo⟩ => ⟨ds.length - (i + 1), by omega, rfl, hlt, F3, p1, p2, e3, r3, l3, h3, eo⟩, fun x H3 hy σ1 hσ => ?_⟩
        obtain ⟨F3, d, e3, hd, rd⟩ := yl x H3 hy
        have hdd : ds.drop i = d :: ds.drop (i + 1) := by
          rw [List.drop_eq_getElem_cons hlt]
          congr 1
          rw [List.getElem?_eq_getElem hlt] at hd
          exact Option.some.inj hd
        rw [hdd] at h2
        simp only [compD] at h2
        cases q1 : asgD t d (List.replicate own.length none ++ capE ρ cap) with
        | none => rw [q1] at h2; cases h2
        | some ρ1 =>
          rw [q1] at h2
          have e13 := e2.trans e3
          refine tg_ok (cap_rep (own := own) (cap := cap) r e1 e13 hσ) rd q1 fun σ' r4 so => ⟨?_, ?_⟩
          · obtain ⟨σ1', l1, e4⟩ := so.pre (σ1 := σ1) rfl (fun j hj => by rw [hσ]; exact ht j hj)
            exact ⟨σ1', by rw [l1, hσ], e4⟩
          · have h2 : ((tc ρ1).bind fun b => if b then (ge ρ1).bind fun y => (compD t tc ge (List.replicate own.length none ++ capE ρ cap) (ds.drop (i + 1))).map (y :: ·) else compD t tc ge (List.replicate own.length none ++ capE ρ cap) (ds.drop (i + 1))) = some o2 := h2
            cases q2 : tc ρ1 with
            | none => rw [q2] at h2; cases h2
            | some bb =>
              rw [q2] at h2
              refine ⟨⟨F1, H1⟩, F3, ρ1, bb, r4, q2, fun F5 H5 e5 => ?_⟩
              cases bb with
              | false => exact iteF ⟨F5, o1, o2, e13.trans e5, ry.mono (e3.ff.trans e5.ff), by omega, h2, rfl⟩
              | true =>
                have h2 : ((ge ρ1).bind fun y => (compD t tc ge (List.replicate own.length none ++ capE ρ cap) (ds.drop (i + 1))).map (y :: ·)) = some o2 := h2
                cases q3 : ge ρ1 with
                | none => rw [q3] at h2; cases h2
                | some y =>
                  rw [q3] at h2
                  have h2 : (compD t tc ge (List.replicate own.length none ++ capE ρ cap) (ds.drop (i + 1))).map (y :: ·) = some o2 := h2
                  cases q4 : compD t tc ge (List.replicate own.length none ++ capE ρ cap) (ds.drop (i + 1)) with
                  | none => rw [q4] at h2; cases h2
                  | some p2 =>
                    rw [q4] at h2
                    cases h2
                    refine iteT ⟨⟨F1, H1⟩, F5, ρ1, y, r4.ext e5, q3, fun v F6 H6 e6 p6 => ?_⟩
                    exact ⟨F6, o1 ++ [y], p2, e13.trans (e5.trans e6), (ry.mono (e3.ff.trans (e5.ff.trans e6.ff))).snoc p6, by simp; omega, rfl, by simp⟩
      · have hi' : i = ds.length := by omega
        have hdd : ds.drop i = [] := by rw [hi', List.drop_length]
        rw [hdd] at h2
        cases h2
        refine .inl ⟨j2 hi', fun D hD => ?_⟩
        have e := e1.trans e2
        exact k _ F2 _ (e.trans (.new e.fh hD)) ⟨D, ys, rfl, e.hh.free hD, upd_same, e.fh.free hD, by simpa using ry⟩
    · cases hg
end
def stE (N : List Str) (xs : List (Option En)) : EnvD := xs ++ List.replicate (N.length - xs.length) none
def outO : Option Fl -> Option En
  | some (.next _) => some (.val .non)
  | some (.ret o) => some o
  | _ => none
def mir (N : List Str) (g : SD) : List En -> Option En := fun xs => outO (g (stE N (xs.map some)))
section
variable {P : Program} {w : World} {K : PySem.W.Frag} {mg : Str -> Option Value} {base : Heap}
theorem paired_get {α β : Type} {R : α -> β -> Prop} : ∀ {l : List α} {r : List β} {i : Nat} {x : α}, Paired R l r -> l[i]? = some x -> ∃ y, r[i]? = some y /\ R x y
  | _, _, _, _, .nil, e => by simp at e
  | _, _, 0, _, .cons r _, e => by simp at e; subst e; exact ⟨_, rfl, r⟩
  | _, _, i + 1, x, .cons _ t, e => by
    obtain ⟨u, h1, h2⟩ := paired_get (i := i) t (by simpa using e)
    exact ⟨u, by simpa using h1, h2⟩
theorem start_rep {F H : Hp} {N ps : List Str} {xs : List En} {vs : List V} (fh : Same F H) (hp : Paired (fun x v => ArgE ⟨K, w⟩ F H x v) xs vs) : Rep ⟨K, w⟩ ⟨F, H⟩ F (L2.start N vs) H (stE N (xs.map some)) := by
  have hl := paired_len hp
  have at' : ∀ (i : Nat) y, (stE N (xs.map some))[i]? = some (some y) -> xs[i]? = some y := fun i y h => by
    unfold stE at h
    by_cases hi : i < xs.length
    · rw [List.getElem?_append_left (by simpa using hi), List.getElem?_map] at h
      cases q : xs[i]? with
      | none => rw [q] at h; cases h
      | some z => rw [q] at h; cases h; rfl
    · rw [List.getElem?_append_right (by simpa using hi), List.getElem?_replicate] at h
      split at h <;> cases h
  refine ⟨.refl fh, ?_, fun i y h => ?_, fun i j y z v w h1 h2 _ _ _ a ha _ => ?_⟩
  · unfold L2.start stE
    simp [hl]
  · have hx := at' i y h
    obtain ⟨v, hv, r⟩ := paired_get hp hx
    refine ⟨v, ?_, ?_⟩
    · unfold L2.start
      rw [List.getElem?_append_left (by simpa using (List.getElem?_eq_some_iff.mp hv).1), List.getElem?_map, hv]; rfl
    · cases y with
      | val d => exact r
      | bor ds => exact r
      | acc ds => exact r.elim
      | oac a dx C fs ds => exact r.elim
      | tre t => exact r.elim
      | dct oa kvs => exact r.elim
      | dbo kvs => exact r
      | exn a => exact r
  · have hx := at' i y h1
    obtain ⟨u, _, r⟩ := paired_get hp hx
    cases y with
    | val d => cases ha
    | bor ds => cases ha
    | acc ds => exact r.elim
    | oac a dx C fs ds => exact r.elim
    | tre t => exact r.elim
    | dct oa kvs => exact r.elim
    | dbo kvs => cases ha
    | exn a => cases ha
theorem fn_pure {x qual : Str} {st : Stmt} {f : Addr} {fd : FuncData} {N ps : List Str} {k : Nat} {g : SD} (F : Fun K x qual st f fd) (S : FnScope N ps (defScope st))
    (hb : ∀ (cdv : Value) (A : Around) (outer : List Env) (s : Shared) (H : Hp) (E : XK) (B : Bs), Room k (A.deeper (envOfC qual (defScope st) s.heap.objs.size f cdv)) ->
      DSs (cxOf CX0 P w K mg base N qual (defScope st) f cdv A outer s H E).nox B (defBody st) g) :
    FnOk P w K mg base CX0 (k + 1) f fd ps (pSp ⟨K, w⟩ ps.length (len? ps.length (mir N g))) := by
  refine F.ok S (fun vs H Q E h => ?_) (fun cdv A outer s H vs Q E hr h => ?_)
  · obtain ⟨F, xs, o, _, hl, hp, _⟩ := h
    rw [<- paired_len hp]; exact hl
  · obtain ⟨F0, xs, o, fh, hl, hp, hm, k⟩ := h
    refine ⟨_, hb cdv A outer s H E ⟨F0, H⟩ hr, ?_⟩
    have hm : mir N g xs = some o := by
      unfold len? at hm
      rw [if_pos hl] at hm
      exact hm
    unfold mir at hm
    cases q : g (stE N (xs.map some)) with
    | none => rw [q] at hm; cases hm
    | some fl =>
      rw [q] at hm
      refine ⟨F0, _, fl, start_rep (ps := ps) fh hp, q, ?_⟩
      cases fl with
      | next ρ => cases hm; exact fun σ' F' H' r s => k .non F' H' r.ex rfl
      | ret o' => cases hm; exact fun v F' H' e p => k v F' H' e p
      | brk ρ => cases hm
      | cont ρ => cases hm
end
section
variable {X : Cx} {B : Bs} {e a b c o : Expr} {es : List Expr} {pos p apos : Pos} {g : EnvD -> Option D} {gxs : EnvD -> Option (List En)} {x mm : Str} {C : Addr} {n k : Nat} {m : List En -> Option En}
def fNeg : D -> Option D
  | .int i => some (.int (-i))
  | _ => none
def gNeg (g : EnvD -> Option D) : EnvD -> Option D := fun ρ => (g ρ).bind fNeg
theorem de_neg (ha : DR X B a g) : DE X B (.UnaryOp .USub a pos) (gNeg g) :=
  pe_imp (pe_un un_neg ha) fun σ H Q ⟨F, ρ, d, r, hg, k⟩ => by
    unfold gNeg at hg
    cases q : g ρ with
    | none => rw [q] at hg; cases hg
    | some y =>
      rw [q] at hg
      cases y with
      | int i => cases hg; exact ⟨F, ρ, _, r, q, fun v F1 H1 e1 p1 => ⟨i, p1.int, k _ F1 H1 e1 rfl⟩⟩
      | _ => cases hg
structure Fx (P : Program) (w : World) (K : PySem.W.Frag) (mg : Str -> Option Value) (base : Heap) (x : Str) (k n : Nat) (m : List En -> Option En) : Prop where
  ex : ∃ f fd ps, FnOk P w K mg base CX0 k f fd ps (pSp ⟨K, w⟩ n (len? n m)) /\ mg x = some (.ref f) /\ PySem.W.keepIn K (.ref f) = true /\ Binds K fd ps []
structure Mx (P : Program) (w : World) (K : PySem.W.Frag) (mg : Str -> Option Value) (base : Heap) (C : Addr) (x : Str) (k n : Nat) (m : List En -> Option En) : Prop where
  ex : ∃ f fd ps, FnOk P w K mg base CX0 k f fd ps (pSp ⟨K, w⟩ n (len? n m)) /\ Meth K C x f /\ Binds K fd ps []
structure Kx (P : Program) (w : World) (K : PySem.W.Frag) (mg : Str -> Option Value) (base : Heap) (C : Addr) (x : Str) (k n : Nat) (mi : List En -> Option (List Str × List D)) : Prop where
  ex : ∃ f fd ps mi', FnOk P w K mg base CX0 k f fd ps (iSp ⟨K, w⟩ C n mi') /\ Mk K C f /\ mg x = some (.ref C) /\ Binds K fd ps [] /\ ∀ a dx xs, mi' a dx xs = mi xs
theorem de_callF (h : Fx X.prog X.w X.kw X.mg X.base x k n m) (hr : Room k X.A) (hg : Gl X x) (ha : DNs X B (e :: es) gxs) (hdb : (x == ("__debug__" : Str)) = false := by decide +kernel)
    (he : starEach (e :: es) X.env = (false, eval e X.env) :: starEach es X.env := by rfl) (hpl : (backTo pos (starEach es X.env)).any (·.1) = false := by rfl) : DE X B (.Call (.Name x p) (e :: es) [] pos) (gCall (len? n m) frzO gxs) := by
  obtain ⟨f, fd, ps, F, hm, hk, hb⟩ := h.ex
  exact de_call F hr hg hm hk hb ha hdb he hpl
theorem da_callF (h : Fx X.prog X.w X.kw X.mg X.base x k n m) (hr : Room k X.A) (hg : Gl X x) (ha : DNs X B (e :: es) gxs) (hdb : (x == ("__debug__" : Str)) = false := by decide +kernel)
    (he : starEach (e :: es) X.env = (false, eval e X.env) :: starEach es X.env := by rfl) (hpl : (backTo pos (starEach es X.env)).any (·.1) = false := by rfl) : DA X B (.Call (.Name x p) (e :: es) [] pos) (gCall (len? n m) accO gxs) := by
  obtain ⟨f, fd, ps, F, hm, hk, hb⟩ := h.ex
  exact da_call F hr hg hm hk hb ha hdb he hpl
theorem de_len {gs : EnvD -> Option (List D)} (hg : Gl X "len") (hm : X.mg "len" = none) (ha : DRs X B [a] gs) (he : starEach [a] X.env = (false, eval a X.env) :: starEach [] X.env := by rfl) (hpl : (backTo pos (starEach [] X.env)).any (·.1) = false := by rfl) :
    DE X B (.Call (.Name "len" p) [a] [] pos) (gB fLen gs) := de_callB call_len ok_len hg hm (by decide +kernel) ha (by decide) (by decide) he hpl
theorem de_min {gs : EnvD -> Option (List D)} (hc : X.calm = true) (hg : Gl X "min") (hm : X.mg "min" = none) (ha : DRs X B [a, b] gs) (he : starEach [a, b] X.env = (false, eval a X.env) :: starEach [b] X.env := by rfl) (hpl : (backTo pos (starEach [b] X.env)).any (·.1) = false := by rfl) :
    DE X B (.Call (.Name "min" p) [a, b] [] pos) (gB fMin gs) := de_callB (call_min2 hc) ok_min hg hm (by decide +kernel) ha (by decide) (by decide) he hpl
theorem de_all {gs : EnvD -> Option (List D)} (hc : X.calm = true) (hg : Gl X "all") (hm : X.mg "all" = none) (ha : DRs X B [a] gs) (he : starEach [a] X.env = (false, eval a X.env) :: starEach [] X.env := by rfl) (hpl : (backTo pos (starEach [] X.env)).any (·.1) = false := by rfl) :
    DE X B (.Call (.Name "all" p) [a] [] pos) (gB fAll gs) := de_callB (call_allL hc) ok_all hg hm (by decide +kernel) ha (by decide) (by decide) he hpl
theorem da_list {gs : EnvD -> Option (List D)} (hg : Gl X "list") (hm : X.mg "list" = none) (ha : DRs X B [a] gs) (he : starEach [a] X.env = (false, eval a X.env) :: starEach [] X.env := by rfl) (hpl : (backTo pos (starEach [] X.env)).any (·.1) = false := by rfl) :
    DA X B (.Call (.Name "list" p) [a] [] pos) (gB fList gs) := da_callTy call_listL ok_list hg hm (by decide +kernel) ha (by decide) (by decide) he hpl
theorem kitT {K : PySem.W.Frag} (T : String) (hT : T ∈ ["bool", "int", "str", "list", "tuple", "dict"]) : ∀ t b, subT t T = some b -> PySem.W.kitOne K (.type t) (.type T) = some b := by
  intro t b h
  unfold subT at h
  by_cases h1 : t = T
  · rw [if_pos h1] at h
    cases h
    subst h1
    unfold PySem.W.kitOne
    rw [if_pos (beq_self_eq_true _)]
  · rw [if_neg h1] at h
    by_cases h2 : t = "bool" /\ T = "int"
    · rw [if_pos h2] at h
      cases h
      obtain ⟨rfl, rfl⟩ := h2
      rfl
    · rw [if_neg h2] at h
      by_cases h3 : (t ∈ ["NoneType", "bool", "int", "str", "list", "tuple", "dict"]) /\ (T ∈ ["bool", "int", "str", "list", "tuple", "dict"])
      · rw [if_pos h3] at h
        cases h
        obtain ⟨m1, m2⟩ := h3
        simp only [List.mem_cons, List.not_mem_nil, or_false] at m1 m2
        rcases m1 with rfl | rfl | rfl | rfl | rfl | rfl | rfl <;> rcases m2 with rfl | rfl | rfl | rfl | rfl | rfl <;> first | rfl | exact absurd rfl h1 | exact absurd ⟨rfl, rfl⟩ h2
      · rw [if_neg h3] at h; cases h
def ckFree (sc : List (Str × NameKind)) (y : Str × NameKind) : Bool := y.2 != .free || sc.lookup y.1 == some .cell || sc.lookup y.1 == some .free
def ckComp (names sc : List (Str × NameKind)) (N : List Str) (cap : List (Str × Nat)) : Bool :=
  names.all (fun y => y.2 != .cell) && names.all (fun y => y.2 != .local || names.lookup y.1 == some .local) && names.all (ckFree sc) && cap.all (fun p => names.lookup p.1 == some .free && N[p.2]? == some p.1)
theorem comp_scope {scope : Scope} {own : List Str} {cap : List (Str × Nat)} {sc : List (Str × NameKind)} {N : List Str} (hk : scope.kind = .function) (h1 : X.env.scope.names = sc) (h2 : X.N = N) (h : ckComp scope.names sc N cap = true) : CompScope X scope own cap := by
  subst h1 h2
  unfold ckComp at h
  simp only [Bool.and_eq_true, List.all_eq_true] at h
  obtain ⟨⟨⟨a1, a2⟩, a3⟩, a4⟩ := h
  refine ⟨hk, fun y hy e => ?_, fun y hy e => ?_, fun y hy e => ?_, fun p hp => ?_⟩
  · have := a1 y hy; rw [e] at this; cases this
  · have := a2 y hy; rw [e] at this; simpa using this
  · have := a3 y hy
    unfold ckFree at this
    rw [e] at this
    have q : List.lookup y.fst X.env.scope.names = some NameKind.cell ∨ List.lookup y.fst X.env.scope.names = some NameKind.free := by simpa using this
    exact q
  · have := a4 p hp
    simpa using this
end
def thenB (o : Option Fl) (g : SD) : Option Fl := o.bind fun fl => match fl with | .next ρ' => g ρ' | fl => some fl
def loopB (o : Option Fl) (k : EnvD -> Option Fl) : Option Fl := o.bind fun fl => match fl with | .next ρ2 => k ρ2 | .cont ρ2 => k ρ2 | .brk ρ2 => some (.next ρ2) | .ret o => some (.ret o)
section
variable {ρ : EnvD} {i k n : Nat} {d x y : D} {ds es : List D} {a b j : Int} {α γ : Type} {ga gb gc' g : EnvD -> Option D} {ta tb : EnvD -> Option Bool} {gs : EnvD -> Option (List D)} {s1 s2 : SD}
@[simp] theorem ev_gc : gc d ρ = some d := rfl
@[simp] theorem ev_gv : gv i ρ = match ρ[i]? with | some (some (.val d)) => some d | _ => none := rfl
@[simp] theorem ev_gr : gr i ρ = match ρ[i]? with | some (some (.val d)) => some d | some (some (.acc ds)) => some (.lst ds) | some (some (.bor ds)) => some (.lst ds) | _ => none := rfl
@[simp] theorem ev_gn : gn i ρ = match ρ[i]? with | some (some (.val d)) => some (.val d) | some (some (.acc ds)) => some (.bor ds) | some (some (.bor ds)) => some (.bor ds) | some (some (.dct _ kvs)) => some (.dbo kvs) | some (some (.dbo kvs)) => some (.dbo kvs) | _ => none := rfl
@[simp] theorem ev_gf : gf i ρ = match ρ[i]? with | some (some (.val d)) => some d | some (some (.bor ds)) => some (.lst ds) | _ => none := rfl
@[simp] theorem ev_gFz : gFz gs ρ = (gs ρ).map D.lst := rfl
@[simp] theorem ev_g2 {f : D -> D -> Option γ} : g2 f ga gb ρ = (ga ρ).bind fun x => (gb ρ).bind fun y => f x y := rfl
@[simp] theorem ev_g3 {f f' : D -> D -> Option D} : g3 f f' ga gb gc' ρ = (ga ρ).bind fun x => (gb ρ).bind fun y => ((f x y).bind asB).bind fun k => if k then (gc' ρ).bind fun z => f' y z else some (.bl false) := rfl
@[simp] theorem ev_gt : gt g ρ = (g ρ).bind truD := rfl
@[simp] theorem ev_gb : gb' g ρ = (g ρ).bind asB := rfl
@[simp] theorem ev_gAnd : gAnd ta tb ρ = (ta ρ).bind fun x => if x then tb ρ else some false := rfl
@[simp] theorem ev_gOr : gOr ta tb ρ = (ta ρ).bind fun x => if x then some true else tb ρ := rfl
@[simp] theorem ev_gNot : gNot ta ρ = (ta ρ).map fun x => !x := rfl
@[simp] theorem ev_gAndV : gAndV ga gb ρ = ((ga ρ).bind asB).bind fun x => if x then gb ρ else some (.bl false) := rfl
@[simp] theorem ev_gNotV : gNotV ga ρ = ((ga ρ).bind asB).map fun x => .bl (!x) := rfl
@[simp] theorem ev_gNil : gNil ρ = some [] := rfl
@[simp] theorem ev_gCons : gCons' g gs ρ = (g ρ).bind fun d => (gs ρ).bind fun ds => some (d :: ds) := rfl
@[simp] theorem ev_gTup : gTup' gs ρ = (gs ρ).bind fun ds => if ds.length <= TOP then some (.tup ds) else none := rfl
@[simp] theorem ev_gLst : gLst gs ρ = (gs ρ).bind fun ds => if ds.length <= TOP then some ds else none := rfl
@[simp] theorem ev_gB {f : List D -> Option γ} : gB f gs ρ = (gs ρ).bind f := rfl
@[simp] theorem ev_nNil : nNil ρ = some [] := rfl
@[simp] theorem ev_nCons {g : EnvD -> Option En} {gs : EnvD -> Option (List En)} : nCons g gs ρ = (g ρ).bind fun d => (gs ρ).bind fun ds => some (d :: ds) := rfl
@[simp] theorem ev_gVal : gVal g ρ = (g ρ).map En.val := rfl
@[simp] theorem ev_gIs {T : String} : gIs T g ρ = (g ρ).bind fun d => (tyD d).bind fun t => (subT t T).map D.bl := rfl
@[simp] theorem ev_gNone : gNone ρ = some none := rfl
@[simp] theorem ev_gSome : gSome g ρ = (g ρ).bind fun d => (asI d).map some := rfl
@[simp] theorem ev_gNeg : gNeg g ρ = (g ρ).bind fNeg := rfl
@[simp] theorem ev_gIt : gIt g ρ = (g ρ).bind itL := rfl
@[simp] theorem ev_gSl {gl gh : EnvD -> Option (Option Int)} : gSl g gl gh ρ = (g ρ).bind fun d => (gl ρ).bind fun l => (gh ρ).bind fun h => match d with | .lst ds => some (cutD ds l h) | _ => none := rfl
@[simp] theorem ev_fNeg : fNeg (.int a) = some (.int (-a)) := rfl
@[simp] theorem ev_itL : itL (.lst ds) = some ds := rfl
@[simp] theorem ev_asI : asI (.int a) = some a := rfl
@[simp] theorem ev_asB {b : Bool} : asB (.bl b) = some b := rfl
@[simp] theorem ev_gCall {m : List En -> Option En} {f : En -> Option α} {gs : EnvD -> Option (List En)} : gCall m f gs ρ = ((gs ρ).bind m).bind f := rfl
@[simp] theorem ev_len {m : List En -> Option En} {xs : List En} : len? n m xs = if xs.length = n then m xs else none := rfl
@[simp] theorem ev_frzV : frzO (.val d) = some d := rfl
@[simp] theorem ev_frzA : frzO (.acc ds) = some (.lst ds) := rfl
@[simp] theorem ev_frzB : frzO (.bor ds) = none := rfl
@[simp] theorem ev_frzC {p q C : Addr} {fs : List Str} : frzO (.oac p q C fs ds) = none := rfl
@[simp] theorem ev_frzT {t : OT} : frzO (.tre t) = some t.erase := rfl
@[simp] theorem ev_accT {t : OT} : accO (.tre t) = none := rfl
@[simp] theorem ev_accV : accO (.val d) = none := rfl
@[simp] theorem ev_accB : accO (.bor ds) = none := rfl
@[simp] theorem ev_accA : accO (.acc ds) = some ds := rfl
@[simp] theorem ev_gR1 : gR1 gs ρ = (gs ρ).bind fun xs => match xs with | [.int j] => if -BIG <= j /\ j <= BIG then some (rngD 0 j.toNat) else none | _ => none := rfl
@[simp] theorem ev_gR2 : gR2 gs ρ = (gs ρ).bind fun xs => match xs with | [.int i, .int j] => if (-BIG <= i /\ i <= BIG) /\ (-BIG <= j /\ j <= BIG) then some (rngD i (j - i).toNat) else none | _ => none := rfl
@[simp] theorem ev_gEn : gEn gs ρ = (gs ρ).bind fun xs => match xs with | [d] => (itL d).map (enumD 0) | _ => none := rfl
@[simp] theorem ev_gComp {own : List Str} {cap : List (Str × Nat)} {t : Tgt} {tc : EnvD -> Option Bool} {ge : EnvD -> Option D} {gi : EnvD -> Option (List D)} : gComp own cap t tc ge gi ρ = (gi ρ).bind fun ds => if ds.length <= TOP then compD t tc ge (List.replicate own.length none ++ capE ρ cap) ds else none := rfl
@[simp] theorem ev_capE {cap : List (Str × Nat)} : capE ρ cap = cap.map fun p => capO ρ[p.2]? := rfl
@[simp] theorem ev_tYes : tYes ρ = some true := rfl
@[simp] theorem ev_fSub : fSub (.int a) (.int b) = some (.int (a - b)) := rfl
theorem ev_fMul : fMul (.int a) (.int b) = if (decide (-LIM < a) && decide (a < LIM)) || (decide (-LIM < b) && decide (b < LIM)) then some (.int (a * b)) else none := rfl
theorem mul_l (h1 : -LIM < a) (h2 : a < LIM) : fMul (.int a) (.int b) = some (.int (a * b)) := by rw [ev_fMul, if_pos (by simp [h1, h2])]
theorem mul_r (h1 : -LIM < b) (h2 : b < LIM) : fMul (.int a) (.int b) = some (.int (a * b)) := by rw [ev_fMul, if_pos (by simp [h1, h2])]
theorem ev_fDiv : fDiv (.int a) (.int b) = if decide (0 < b) && decide (b < 1073741824) then some (.int (a / b)) else none := rfl
theorem ev_fMod : fMod (.int a) (.int b) = if decide (0 < b) then some (.int (a % b)) else none := rfl
theorem div_ok (h1 : 0 < b) (h2 : b < 1073741824) : fDiv (.int a) (.int b) = some (.int (a / b)) := by rw [ev_fDiv, if_pos (by simp [h1, h2])]
theorem mod_ok (h1 : 0 < b) : fMod (.int a) (.int b) = some (.int (a % b)) := by rw [ev_fMod, if_pos (by simp [h1])]
theorem shr_ok (h1 : 0 <= b) : fShr (.int a) (.int b) = some (.int (a / 2 ^ b.toNat)) := by show (if _ then _ else _) = _; rw [if_pos (by simp [h1])]
@[simp] theorem ev_fAnd : fAnd (.int a) (.int b) = some (.int (Builtin.bitAnd a b)) := rfl
theorem ev_fPow : fPow (.int a) (.int b) = if decide (0 <= b) && decide (b <= 1000000) && decide (a.natAbs < 18446744073709551616) then some (.int (a ^ b.toNat)) else none := rfl
@[simp] theorem ev_fLt : fLt (.int a) (.int b) = some (.bl (decide (a < b))) := rfl
@[simp] theorem ev_fLe : fLe (.int a) (.int b) = some (.bl (decide (a <= b))) := rfl
@[simp] theorem ev_fGt : fGt (.int a) (.int b) = some (.bl (decide (b < a))) := rfl
@[simp] theorem ev_fIxL : fIx (.lst ds) (.int a) = atI ds a := rfl
@[simp] theorem ev_fIxT : fIx (.tup ds) (.int a) = atI ds a := rfl
@[simp] theorem ev_fIxS {ns : List Int} : fIx (.scr ns) (.int a) = (atI ns a).map D.int := rfl
theorem eqOk_int : eqOk (.int a) = true := by simp [eqOk, SeqAt.shaped, toP, PyData.canLay0, PyData.depth]
@[simp] theorem ev_fEqI {neg : Bool} : fEq neg (.int a) (.int b) = some (.bl (if neg then !decide (a = b) else decide (a = b))) := by
  unfold fEq
  rw [eqOk_int, eqOk_int]
  have : eqD (.int a) (.int b) = decide (a = b) := by
    by_cases h : a = b
    · subst h; simp [eqD, toP, PyData.eqv]
    · simp [eqD, toP, PyData.eqv, h]
  rw [this]; rfl
@[simp] theorem ev_truB {b : Bool} : truD (.bl b) = some b := rfl
@[simp] theorem ev_truL : truD (.lst ds) = some (!ds.isEmpty) := rfl
@[simp] theorem ev_truT : truD (.tup ds) = some (!ds.isEmpty) := rfl
@[simp] theorem ev_fLenL : fLen [.lst ds] = some (.int ds.length) := rfl
@[simp] theorem ev_fLenT : fLen [.tup ds] = some (.int ds.length) := rfl
@[simp] theorem ev_fLenS {ns : List Int} : fLen [.scr ns] = some (.int ns.length) := rfl
@[simp] theorem ev_fMin : fMin [.int a, .int b] = some (.int (min a b)) := by
  show some (D.int (if b < a then b else a)) = _
  congr 2; split <;> omega
@[simp] theorem ev_fAll : fAll [.lst ds] = (asBs ds).map fun bs => .bl (bs.all fun x => x) := rfl
@[simp] theorem ev_fListL : fList [.lst ds] = some ds := rfl
@[simp] theorem ev_fListT : fList [.tup ds] = some ds := rfl
@[simp] theorem ev_tyI : tyD (.int a) = some "int" := rfl
@[simp] theorem ev_tyB {b : Bool} : tyD (.bl b) = some "bool" := rfl
@[simp] theorem ev_tyN : tyD .non = some "NoneType" := rfl
@[simp] theorem ev_tyL : tyD (.lst ds) = some "list" := rfl
@[simp] theorem ev_tyT : tyD (.tup ds) = some "tuple" := rfl
@[simp] theorem ev_tyS {x : Str} : tyD (.str x) = some "str" := rfl
@[simp] theorem subT_int_int : subT "int" "int" = some true := by decide
@[simp] theorem subT_int_bool : subT "int" "bool" = some false := by decide
@[simp] theorem subT_non_int : subT "NoneType" "int" = some false := by decide
@[simp] theorem subT_l_l : subT "list" "list" = some true := by decide
@[simp] theorem subT_t_t : subT "tuple" "tuple" = some true := by decide
@[simp] theorem ev_sSeq : sSeq s1 s2 ρ = thenB (s1 ρ) s2 := rfl
@[simp] theorem thenB_next : thenB (some (.next ρ)) s2 = s2 ρ := rfl
@[simp] theorem thenB_ret {o : En} : thenB (some (.ret o)) s2 = some (.ret o) := rfl
@[simp] theorem thenB_none : thenB none s2 = none := rfl
@[simp] theorem loopB_next {k : EnvD -> Option Fl} : loopB (some (.next ρ)) k = k ρ := rfl
@[simp] theorem loopB_ret {k : EnvD -> Option Fl} {o : En} : loopB (some (.ret o)) k = some (.ret o) := rfl
@[simp] theorem loopB_none {k : EnvD -> Option Fl} : loopB none k = none := rfl
@[simp] theorem ev_sNext : sNext ρ = some (.next ρ) := rfl
@[simp] theorem ev_sNever : sNever ρ = none := rfl
@[simp] theorem ev_sSet : sSet i g ρ = (g ρ).map fun d => .next (ρ.set i (some (.val d))) := rfl
@[simp] theorem ev_sSetA : sSetA i gs ρ = (gs ρ).map fun ds => .next (ρ.set i (some (.acc ds))) := rfl
@[simp] theorem ev_sRet : sRet g ρ = (g ρ).map fun d => .ret (.val d) := rfl
@[simp] theorem ev_sRetA : sRetA gs ρ = (gs ρ).map fun d => .ret (.acc d) := rfl
@[simp] theorem ev_sRetV : sRetV i ρ = match ρ[i]? with | some (some (.acc ds)) => some (.ret (.acc ds)) | some (some (.val d)) => some (.ret (.val d)) | _ => none := rfl
@[simp] theorem ev_sIf : sIf ta s1 s2 ρ = (ta ρ).bind fun b => if b then s1 ρ else s2 ρ := rfl
@[simp] theorem ev_sApp : sApp i g ρ = match ρ[i]? with | some (some (.acc ds)) => (g ρ).bind fun d => if ds.length <= TOP then some (.next (ρ.set i (some (.acc (ds ++ [d]))))) else none | _ => none := rfl
@[simp] theorem ev_sFor {t : Tgt} {gi : EnvD -> Option (List D)} : sFor t gi s1 ρ = (gi ρ).bind fun ds => forD t s1 ds ρ := rfl
@[simp] theorem ev_asgN : asgD (.name i) d ρ = some (ρ.set i (some (.val d))) := rfl
@[simp] theorem ev_asgT {is : List Nat} : asgD (.tup is) (.tup ds) ρ = if ds.length = is.length then some (setMany is ds ρ) else none := rfl
@[simp] theorem ev_setMany {is : List Nat} : setMany (i :: is) (d :: ds) ρ = setMany is ds (ρ.set i (some (.val d))) := rfl
@[simp] theorem ev_setMany0 : setMany [] [] ρ = ρ := rfl
@[simp] theorem ev_outR {o : En} : outO (some (.ret o)) = some o := rfl
@[simp] theorem ev_outN : outO (some (.next ρ)) = some (.val .non) := rfl
@[simp] theorem ev_for0 {t : Tgt} : forD t s1 [] ρ = some (.next ρ) := rfl
@[simp] theorem ev_forS {t : Tgt} : forD t s1 (d :: ds) ρ = loopB ((asgD t d ρ).bind s1) (forD t s1 ds) := by
  show ((asgD t d ρ).bind fun ρ1 => (s1 ρ1).bind fun fl => _) = _
  cases asgD t d ρ with
  | none => rfl
  | some ρ1 => rfl
@[simp] theorem ev_comp0 {t : Tgt} : compD t ta g ρ [] = some [] := rfl
@[simp] theorem ev_compS {t : Tgt} : compD t ta g ρ (d :: ds) = (asgD t d ρ).bind fun ρ1 => (ta ρ1).bind fun b => if b then (g ρ1).bind fun y => (compD t ta g ρ ds).map (y :: ·) else compD t ta g ρ ds := rfl
@[simp] theorem ev_cap1 : capO (some (some (.val d))) = some (.val d) := rfl
@[simp] theorem ev_cap2 : capO (some (some (.acc ds))) = some (.bor ds) := rfl
@[simp] theorem ev_cap3 : capO (some (some (.bor ds))) = some (.bor ds) := rfl
@[simp] theorem ev_cap4 {oa : Option Addr} {kvs : List (Key × D)} : capO (some (some (.dct oa kvs))) = some (.dbo kvs) := rfl
@[simp] theorem ev_cap5 {kvs : List (Key × D)} : capO (some (some (.dbo kvs))) = some (.dbo kvs) := rfl
theorem atI_at {xs : List α} {v : α} (n : Nat) (h : xs[n]? = some v) : atI xs (n : Int) = some v := by
  have hl : n < xs.length := (List.getElem?_eq_some_iff.mp h).1
  unfold atI ixN
  rw [if_pos (by omega), if_pos (by omega)]
  simpa using h
@[simp] theorem atI_0 {xs : List α} {v : α} : atI (v :: xs) 0 = some v := atI_at 0 rfl
@[simp] theorem atI_1 {xs : List α} {v w : α} : atI (w :: v :: xs) 1 = some v := atI_at 1 rfl
@[simp] theorem atI_2 {xs : List α} {v w u : α} : atI (u :: w :: v :: xs) 2 = some v := atI_at 2 rfl
@[simp] theorem atI_last {xs : List α} {v : α} : atI (xs ++ [v]) (-1) = some v := by
  unfold atI ixN
  rw [if_neg (by omega), if_pos (by simp; omega)]
  simp
  have : (-1 + ((xs.length : Int) + 1)).toNat = xs.length := by omega
  rw [this]; simp
theorem ixN_last (n : Nat) : ixN (n + 1) (-1) = some n := by
  unfold ixN
  rw [if_neg (by omega), if_pos (by omega)]
  congr 1; omega
theorem rngD_map : ∀ (lo : Int) (n : Nat), rngD lo n = (List.range n).map fun (k : Nat) => D.int (lo + k)
  | lo, 0 => rfl
  | lo, n + 1 => by
    rw [rngD, rngD_map (lo + 1) n, List.range_succ_eq_map]
    simp only [List.map_cons, List.map_map]
    congr 1
    · simp
    · apply List.map_congr_left
      intro a _
      show D.int _ = D.int _
      congr 1
      show lo + 1 + (a : Int) = lo + ((a + 1 : Nat) : Int)
      omega
end
section
variable {X : Cx} {B : Bs} {e a b c o : Expr} {es : List Expr} {pos p apos cpos p2 : Pos} {g ga gb go : EnvD -> Option D} {gs : EnvD -> Option (List D)} {x : Str}
def fPlus : D -> D -> Option D
  | .int i, .int j => some (.int (i + j))
  | .str x, .str y => if x.length + y.length <= TOP then some (.str (x ++ y)) else none
  | _, _ => none
theorem ok_plus {K : KW} : OkR K (fun x y H Q => rI0 (fun i j => .int (i + j)) x y H Q ∨ ∃ i j, x = .str i /\ y = .str j /\ i.length + j.length <= sizeLine /\ Q (.str (i ++ j)) H) (pE K) fPlus := by
  intro F H x y dx dy d Q s rx ry e k
  unfold fPlus at e
  split at e
  · cases e; exact .inl ⟨_, _, rx.int, ry.int, k _ F H (.refl s) rfl⟩
  · split at e
    · rename_i hc
      cases e; exact .inr ⟨_, _, rx.str, ry.str, top_line hc, k _ F H (.refl s) rfl⟩
    · cases e
  · cases e
theorem de_plus (ha : DR X B a ga) (hb : DR X B b gb) : DE X B (.BinOp a .Add b pos) (g2 fPlus ga gb) := de_op (op_add.or op_add_str) ok_plus ha hb
def fItem : D -> D -> Option D
  | .str z, .int i => if z.length <= TOP then (atI z.cps.toList i).map fun c => .str ⟨#[c]⟩ else none
  | .lst xs, .int i => atI xs i
  | .tup xs, .int i => atI xs i
  | .scr ns, .int i => (atI ns i).map D.int
  | _, _ => none
theorem ok_item {K : KW} : OkR K (rIx K) (pE K) fItem := by
  intro F H x y dx dy d Q s rx ry e k
  cases dx with
  | str z =>
    cases dy with
    | int i =>
      replace e : (if z.length <= TOP then (atI z.cps.toList i).map (fun c => D.str ⟨#[c]⟩) else none) = some d := e
      split at e
      · rename_i hc
        cases q : atI z.cps.toList i with
        | none => rw [q] at e; cases e
        | some c =>
          rw [q] at e
          cases e
          exact .inr (.inr ⟨z, i, c, rx.str, ry.int, top_line hc, q, k _ F H (.refl s) rfl⟩)
      · cases e
    | _ => cases e
  | lst xs => exact ok_ix F H x y _ dy d Q s rx ry (by cases dy <;> first | exact e | cases e) k
  | tup xs => exact ok_ix F H x y _ dy d Q s rx ry (by cases dy <;> first | exact e | cases e) k
  | scr xs => exact ok_ix F H x y _ dy d Q s rx ry (by cases dy <;> first | exact e | cases e) k
  | _ => cases dy <;> cases e
theorem de_item2 (ha : DR X B a ga) (hb : DR X B b gb) (hs : PlainIx b) : DE X B (.Subscript a b pos) (g2 fItem ga gb) := de_ix ix_seq ok_item ha hb hs
def rSlS : V -> Option Int -> Option Int -> Hp -> VK -> Prop := fun x lo hi H Q => ∃ z, x = .str z /\ z.length <= sizeLine /\ Q (.str (Txt.slice z lo hi)) H
theorem sl_str : SlR X rSlS := by
  intro pins s σ H x v vl vu lo hi sl Q I rx hs pl pu h
  obtain ⟨z, rfl, hz, q⟩ := h
  obtain ⟨t, rfl⟩ := rx
  refine ⟨"str", _, PySem.F.slot_str_getitem.lookup, typeIs_str _ _ _, ?_⟩
  cases pl with
  | none =>
    cases pu with
    | none => exact wpAny_getItem_str_slice (l := none) (u := none) (st := none) hs rfl (post_val_or_str ⟨Nat.le_trans (Txt.slice_le z none none) hz, fun t' k => ⟨.str _, H, I.tok _, ⟨_, rfl⟩, q⟩⟩)
    | int j tj => exact wpAny_getItem_str_slice (l := none) (u := some (j, tj)) (st := none) hs rfl (post_val_or_str ⟨Nat.le_trans (Txt.slice_le z none (some j)) hz, fun t' k => ⟨.str _, H, I.tok _, ⟨_, rfl⟩, q⟩⟩)
  | int i ti =>
    cases pu with
    | none => exact wpAny_getItem_str_slice (l := some (i, ti)) (u := none) (st := none) hs rfl (post_val_or_str ⟨Nat.le_trans (Txt.slice_le z (some i) none) hz, fun t' k => ⟨.str _, H, I.tok _, ⟨_, rfl⟩, q⟩⟩)
    | int j tj => exact wpAny_getItem_str_slice (l := some (i, ti)) (u := some (j, tj)) (st := none) hs rfl (post_val_or_str ⟨Nat.le_trans (Txt.slice_le z (some i) (some j)) hz, fun t' k => ⟨.str _, H, I.tok _, ⟨_, rfl⟩, q⟩⟩)
def gSlS (g : EnvD -> Option D) (gl gh : EnvD -> Option (Option Int)) : EnvD -> Option D := fun ρ => (g ρ).bind fun d => (gl ρ).bind fun l => (gh ρ).bind fun h => match d with
  | .str z => if z.length <= TOP then some (.str (Txt.slice z l h)) else none
  | _ => none
theorem de_sliceS {lo hi : Option Expr} {gl gh : EnvD -> Option (Option Int)} (he : DR X B e g) (hl : DO X B lo gl) (hh : DO X B hi gh) : DE X B (.Subscript e (.Slice lo hi none p2) pos) (gSlS g gl gh) :=
  pe_imp (pe_slice sl_str he hl hh) fun σ H Q ⟨F, ρ, d, r, hg, k⟩ => by
    unfold gSlS at hg
    cases q : g ρ with
    | none => rw [q] at hg; cases hg
    | some x =>
      cases ql : gl ρ with
      | none => rw [q, ql] at hg; cases hg
      | some l =>
        cases qh : gh ρ with
        | none => rw [q, ql, qh] at hg; cases hg
        | some h =>
          rw [q, ql, qh] at hg
          cases x with
          | str z =>
            replace hg : (if z.length <= TOP then some (D.str (Txt.slice z l h)) else none) = some d := hg
            split at hg
            · rename_i hc
              cases hg
              refine ⟨F, ρ, _, r, q, fun v F1 H1 e1 p1 => ⟨F1, ρ, l, r.ext e1, ql, fun F2 H2 e2 => ⟨F2, ρ, h, r.ext (e1.trans e2), qh, fun F3 H3 e3 => ?_⟩⟩⟩
              exact ⟨z, p1.str, top_line hc, k _ F3 H3 (e1.trans (e2.trans e3)) rfl⟩
            · cases hg
          | _ => cases hg
def asSs : List D -> Option (List Str)
  | [] => some []
  | .str x :: r => (asSs r).map (x :: ·)
  | _ => none
def rCatS (K : KW) : R2 := fun x y H Q => ∃ l b xs zs, x = .ref l /\ y = .ref b /\ SqL K H l xs /\ SqL K H b zs /\ xs.length + zs.length <= sizeLine /\ ∀ p, H p = none -> Q (.ref p) (upd H p (.lst (xs ++ zs)))
theorem op_catS : OpR X (binaryOp .Add) (rCatS X.kw) := by
  intro pins s σ H x y v u Q I rx ry h
  obtain ⟨l, b, xs, zs, rfl, rfl, hH, hB, hz, q⟩ := h
  cases rx
  cases ry
  obtain ⟨its, r, pl, z⟩ := I.list hH
  obtain ⟨its2, r2, pl2, z2⟩ := I.list hB
  obtain ⟨⟨cls, dd, data, sl⟩, n, ho, hc, hd', hd⟩ := pl
  obtain ⟨⟨cls2, dd2, data2, sl2⟩, n2, ho2, hc2, hd2', hd2⟩ := pl2
  simp only at hc hd hc2 hd2
  subst hc hd hc2 hd2
  have e : its.toArray ++ its2.toArray = (its ++ its2).toArray := by simp
  have l1 := r.length
  have l2 := r2.length
  refine concat_meets ⟨_, ho, rfl⟩ ⟨_, ho2, rfl⟩ noFill_list_add seq_list_add PySem.F.slot_list_add PySem.F.entry_list_add (PySem.F.args_list_add_2 _ _) (list_addW l b its.toArray its2.toArray n n2 dd dd2 sl sl2 (by simp; omega)) ⟨ho, ho2, ?_⟩
  rw [e]
  exact ⟨.ref _, _, I.lnew (t' := s.toks) (r.append r2) (by rw [List.length_append]; omega), rfl, q _ I.fresh⟩
def fCatS : D -> D -> Option (List D) := fun x y => (itL x).bind fun xs => (itL y).bind fun ys => if xs.length + ys.length <= TOP then some (xs ++ ys) else none
theorem ok_catS {K : KW} : OkR K (rCatS K) (pA K) fCatS := by
  intro F H x y dx dy d Q s rx ry e k
  unfold fCatS at e
  obtain ⟨xs, ys, q1, q2, q3⟩ := bind2 e
  split at q3
  · rename_i hc
    cases q3
    obtain ⟨l, vs, rfl, h2, h1⟩ := rq_items rx q1
    obtain ⟨b, ws, rfl, h4, h3⟩ := rq_items ry q2
    refine ⟨l, b, vs, ws, rfl, rfl, h1 F H (Same.refl _) s (Same.refl _), h3 F H (Same.refl _) s (Same.refl _), top_line (by rw [<- h2.length, <- h4.length]; exact hc), fun p hp => k _ F _ (.new s hp) ⟨p, _, rfl, hp, upd_same, s.free hp, h2.append h4⟩⟩
  · cases q3
theorem da_catS (ha : DR X B a ga) (hb : DR X B b gb) : DA X B (.BinOp a .Add b pos) (g2 fCatS ga gb) := da_op op_catS ok_catS ha hb
def fInt : List D -> Option D
  | [.int i] => some (.int i)
  | [.bl b] => some (.int (if b then 1 else 0))
  | _ => none
theorem ok_int {K : KW} : CallOk K (fun xs H Q => (∃ i, xs = [.int i] /\ Q (.int i) H) ∨ ∃ k, xs = [.bl k] /\ Q (.int (if k then 1 else 0)) H) (pE K) fInt := by
  intro F H vs ds d Q s hp e k
  unfold fInt at e
  split at e
  · cases e
    obtain ⟨v, rfl, r⟩ := pair1 hp
    cases r.int
    exact .inl ⟨_, rfl, k _ F H (.refl s) rfl⟩
  · cases e
    obtain ⟨v, rfl, r⟩ := pair1 hp
    cases r.bl
    exact .inr ⟨_, rfl, k _ F H (.refl s) rfl⟩
  · cases e
theorem de_intc (hg : Gl X "int") (hm : X.mg "int" = none) (ha : DRs X B [a] gs) (he : starEach [a] X.env = (false, eval a X.env) :: starEach [] X.env := by rfl) (hpl : (backTo pos (starEach [] X.env)).any (·.1) = false := by rfl) :
    DE X B (.Call (.Name "int" p) [a] [] pos) (gB fInt gs) := de_callTy call_int1 ok_int hg hm (by decide +kernel) ha (by decide) (by decide) he hpl
def sAsg (t : Tgt) (g : EnvD -> Option D) : SD := fun ρ => (g ρ).bind fun d => (asgD t d ρ).map Fl.next
theorem ds_asg {tg : Expr} {t : Tgt} (he : DE X B e g) (hg : PG X tg (tgT X.kw t)) (hs : swapsWithSole [tg] e pos.line X.env = pure false := by rfl) (hw : swappedStores [tg] e X.env = pure none := by rfl)
    (h1 : (assignEach [tg] X.env).map (·.2) = [assign tg X.env] := by rfl) : DS X B (.Assign [tg] e pos) (sAsg t g) :=
  ps_imp (ps_asg he hg hs hw h1) fun E σ H ⟨F, ρ, fl, r, hg, k⟩ => by
    unfold sAsg at hg
    cases q : g ρ with
    | none => rw [q] at hg; cases hg
    | some d =>
      rw [q] at hg
      replace hg : (asgD t d ρ).map Fl.next = some fl := hg
      cases q2 : asgD t d ρ with
      | none => rw [q2] at hg; cases hg
      | some ρ' =>
        rw [q2] at hg
        cases hg
        exact ⟨F, ρ, d, r, q, fun v F1 H1 e1 p1 => tg_ok (r.ext e1) p1 q2 fun σ' r' _ => k σ' F1 H1 r' e1.ff⟩
def whileD (t : EnvD -> Option Bool) (gb : SD) : Nat -> EnvD -> Option Fl
  | 0, _ => none
  | n + 1, ρ => (t ρ).bind fun b => if b then (gb ρ).bind fun fl => match fl with
    | .next ρ2 => whileD t gb n ρ2
    | .cont ρ2 => whileD t gb n ρ2
    | .brk ρ2 => some (.next ρ2)
    | .ret o => some (.ret o)
    else some (.next ρ)
open Classical in
variable {nm : Str} {id : String} {r : V -> List V -> Hp -> VK -> Prop} {f : List D -> List D -> Option (List D)}
theorem comp_t {own : List Str} {cap : List (Str × Nat)} {t : Tgt} {tc : EnvD -> Option Bool} {ge : EnvD -> Option D} {gi : EnvD -> Option (List D)} (ht : ∀ i ∈ t.slots, i < own.length) :
    ∀ σ H Q, lG X.kw B (pA X.kw) (gComp own cap t tc ge gi) σ H Q -> tComp (lI X.kw B (fun H => H) gi) own cap (tgT X.kw t) (fun σ H Q => ∃ B', lT X.kw B' tc σ H Q) (fun σ H Q => ∃ B', lG X.kw B' (pE X.kw) ge σ H Q) σ H Q := by
  intro σ H Q ⟨F, ρ, out, r, hg, k⟩
  unfold gComp at hg
  cases q : gi ρ with
  | none => rw [q] at hg; cases hg
  | some ds =>
    rw [q] at hg
    have hg : (if ds.length <= TOP then compD t tc ge (List.replicate own.length none ++ capE ρ cap) ds else none) = some out := hg
    split at hg
    · rename_i htop
      refine ⟨F, ρ, ds, r, q, fun J F1 H1 e1 jok => ?_⟩
      refine ⟨fun i m ys H2 => m = ds.length - i /\ i <= ds.length /\ ∃ F2 o1 o2, Ext F1 H1 F2 H2 /\ Rps X.kw F2 o1 ys /\ o1.length <= i /\ compD t tc ge (List.replicate own.length none ++ capE ρ cap) (ds.drop i) = some o2 /\ out = o1 ++ o2,
        ⟨ds.length, rfl, Nat.zero_le _, F1, [], out, .refl e1.fh, rfl, Nat.le_refl _, hg, rfl⟩, ?_⟩
      rintro i m ys H2 ⟨rfl, hi, F2, o1, o2, e2, ry, hl1, h2, rfl⟩
      refine ⟨top_line (by rw [<- ry.length]; omega), ?_⟩
      obtain ⟨j1, j2⟩ := jok F2 H2 e2.ff e2.fh e2.hh i
      by_cases hlt : i < ds.length
      · obtain ⟨go, yl⟩ := j1 hlt
        refine .inr ⟨go, fun ys' H' => ∃ F3 p1 p2, Ext F1 H1 F3 H' /\ Rps X.kw F3 p1 ys' /\ p1.length <= i + 1 /\ compD t tc ge (List.replicate own.length none ++ capE ρ cap) (ds.drop (i + 1)) = some p2 /\ o1 ++ o2 = p1 ++ p2, fun ys' H' ⟨F3, p1, p2, e3, r3, l3, h3, eo⟩ => ⟨ds.length - (i + 1), by omega, rfl, hlt, F3, p1, p2, e3, r3, l3, h3, eo⟩, fun x H3 hy σ1 hσ => ?_⟩
        obtain ⟨F3, d, e3, hd, rd⟩ := yl x H3 hy
        have hdd : ds.drop i = d :: ds.drop (i + 1) := by
          rw [List.drop_eq_getElem_cons hlt]
          congr 1
          rw [List.getElem?_eq_getElem hlt] at hd
          exact Option.some.inj hd
        rw [hdd] at h2
        simp only [compD] at h2
        cases q1 : asgD t d (List.replicate own.length none ++ capE ρ cap) with
        | none => rw [q1] at h2; cases h2
        | some ρ1 =>
          rw [q1] at h2
          have e13 := e2.trans e3
          refine tg_ok (cap_rep (own := own) (cap := cap) r e1 e13 hσ) rd q1 fun σ' r4 so => ⟨?_, ?_⟩
          · obtain ⟨σ1', l1, e4⟩ := so.pre (σ1 := σ1) rfl (fun j hj => by rw [hσ]; exact ht j hj)
            exact ⟨σ1', by rw [l1, hσ], e4⟩
          · have h2 : ((tc ρ1).bind fun b => if b then (ge ρ1).bind fun y => (compD t tc ge (List.replicate own.length none ++ capE ρ cap) (ds.drop (i + 1))).map (y :: ·) else compD t tc ge (List.replicate own.length none ++ capE ρ cap) (ds.drop (i + 1))) = some o2 := h2
            cases q2 : tc ρ1 with
            | none => rw [q2] at h2; cases h2
            | some bb =>
              rw [q2] at h2
              refine ⟨⟨F1, H1⟩, F3, ρ1, bb, r4, q2, fun F5 H5 e5 => ?_⟩
              cases bb with
              | false => exact iteF ⟨F5, o1, o2, e13.trans e5, ry.mono (e3.ff.trans e5.ff), by omega, h2, rfl⟩
              | true =>
                have h2 : ((ge ρ1).bind fun y => (compD t tc ge (List.replicate own.length none ++ capE ρ cap) (ds.drop (i + 1))).map (y :: ·)) = some o2 := h2
                cases q3 : ge ρ1 with
                | none => rw [q3] at h2; cases h2
                | some y =>
                  rw [q3] at h2
                  have h2 : (compD t tc ge (List.replicate own.length none ++ capE ρ cap) (ds.drop (i + 1))).map (y :: ·) = some o2 := h2
                  cases q4 : compD t tc ge (List.replicate own.length none ++ capE ρ cap) (ds.drop (i + 1)) with
                  | none => rw [q4] at h2; cases h2
                  | some p2 =>
                    rw [q4] at h2
                    cases h2
                    refine iteT ⟨⟨F1, H1⟩, F5, ρ1, y, r4.ext e5, q3, fun v F6 H6 e6 p6 => ?_⟩
                    exact ⟨F6, o1 ++ [y], p2, e13.trans (e5.trans e6), (ry.mono (e3.ff.trans (e5.ff.trans e6.ff))).snoc p6, by simp; omega, rfl, by simp⟩
      · have hi' : i = ds.length := by omega
        have hdd : ds.drop i = [] := by rw [hi', List.drop_length]
        rw [hdd] at h2
        cases h2
        refine .inl ⟨j2 hi', fun D hD => ?_⟩
        have e := e1.trans e2
        exact k _ F2 _ (e.trans (.new e.fh hD)) ⟨D, ys, rfl, e.hh.free hD, upd_same, e.fh.free hD, by simpa using ry⟩
    · cases hg
theorem frz_t {gl : EnvD -> Option (List D)} {σ : St} {H : Hp} {Q : VK} (h : lG X.kw B (pE X.kw) (gFz gl) σ H Q) : lG X.kw B (pA X.kw) gl σ H Q := by
  obtain ⟨F, ρ, x, r, hg, k⟩ := h
  unfold gFz at hg
  cases q : gl ρ with
  | none => rw [q] at hg; cases hg
  | some ds =>
    rw [q] at hg; cases hg
    refine ⟨F, ρ, ds, r, q, fun v F' H' e p => ?_⟩
    obtain ⟨a, vs, rfl, p1, p2, p3, p4⟩ := p
    exact k _ (upd F' a (.lst vs)) H' (e.freeze p1 p3 p2) ⟨a, vs, rfl, upd_same, p4.mono (same_upd p3)⟩
section
variable {i : Nat} {y : Str} {py spos : Pos} {elt tg iter : Expr} {ifs : List Expr} {scope : Scope} {own : List Str} {cap : List (Str × Nat)} {t : Tgt} {tc : EnvD -> Option Bool} {ge : EnvD -> Option D} {gi : EnvD -> Option (List D)}
theorem ps_lcD (hc : X.calm = true) (S : CompScope X scope own cap) (hi : DI X B (fun H => H) tg iter gi)
    (hin : ∀ (B' : Bs) C s₀ H₀ fp pn, PG (cxc X scope C (own ++ cap.map (·.1)) s₀ H₀ fp pn) tg (tgT X.kw t) /\ DIfs (cxc X scope C (own ++ cap.map (·.1)) s₀ H₀ fp pn) B' ifs tc /\ DE (cxc X scope C (own ++ cap.map (·.1)) s₀ H₀ fp pn) B' elt ge)
    (hN : X.N.Nodup) (hiy : X.N[i]? = some y) (hy : Loc X.env.scope y) (hsw : swapsWith (.ListComp elt [⟨tg, iter, ifs, 0⟩] scope pos) (some (.Name y py)) spos.line X.env = pure true)
    (hs : ∀ x, foldedSetIterable iter X.env x = pure x) (hfn : X.fn y = true ∨ X.env.scope.names.lookup y = some .local) :
    PS X (.Assign [.Name y py] (.ListComp elt [⟨tg, iter, ifs, 0⟩] scope pos) spos) (tAsg (tComp (lI X.kw B (fun H => H) gi) own cap (tgT X.kw t) (fun σ H Q => ∃ B', lT X.kw B' tc σ H Q) (fun σ H Q => ∃ B', lG X.kw B' (pE X.kw) ge σ H Q)) (gName i)) :=
  ps_lcset (tc := fun σ H Q => ∃ B', lT X.kw B' tc σ H Q) (te := fun σ H Q => ∃ B', lG X.kw B' (pE X.kw) ge σ H Q) hc S hi (fun C s₀ H₀ fp pn => ⟨(hin ⟨H₀, H₀⟩ C s₀ H₀ fp pn).1, fun pins s σ H Q I ⟨B', q⟩ => (hin B' C s₀ H₀ fp pn).2.1 pins s σ H Q I q, fun pins s σ H Q I ⟨B', q⟩ => (hin B' C s₀ H₀ fp pn).2.2 pins s σ H Q I q⟩) hN hiy hy hsw hs hfn
theorem ds_setC (hc : X.calm = true) (S : CompScope X scope own cap) (hi : DI X B (fun H => H) tg iter gi) (ht : ∀ i ∈ t.slots, i < own.length)
    (hin : ∀ (B' : Bs) C s₀ H₀ fp pn, PG (cxc X scope C (own ++ cap.map (·.1)) s₀ H₀ fp pn) tg (tgT X.kw t) /\ DIfs (cxc X scope C (own ++ cap.map (·.1)) s₀ H₀ fp pn) B' ifs tc /\ DE (cxc X scope C (own ++ cap.map (·.1)) s₀ H₀ fp pn) B' elt ge)
    (hN : X.N.Nodup) (hiy : X.N[i]? = some y) (hy : Loc X.env.scope y) (hsw : swapsWith (.ListComp elt [⟨tg, iter, ifs, 0⟩] scope pos) (some (.Name y py)) spos.line X.env = pure true := by rfl)
    (hs : ∀ x, foldedSetIterable iter X.env x = pure x := by intro _; rfl) (hfn : X.fn y = true ∨ X.env.scope.names.lookup y = some .local := by first | exact .inl rfl | exact .inr rfl | assumption) :
    DS X B (.Assign [.Name y py] (.ListComp elt [⟨tg, iter, ifs, 0⟩] scope pos) spos) (sSet i (gFz (gComp own cap t tc ge gi))) :=
  ps_imp (ps_lcD hc S hi hin hN hiy hy hsw hs hfn) fun E σ H h => comp_t ht σ H _ (frz_t (set_ok h))
end
end
section
variable {X : Cx} {B : Bs} {e a b c o : Expr} {es : List Expr} {pos p p2 apos cpos : Pos} {g ga gb go : EnvD -> Option D} {gs : EnvD -> Option (List D)} {x : Str}
def gh (i : Nat) : EnvD -> Option D := fun ρ => match ρ[i]? with
  | some (some (.val d)) => some d
  | some (some (.acc ds)) => some (.lst ds)
  | some (some (.bor ds)) => some (.lst ds)
  | some (some (.tre t)) => some t.erase
  | _ => none
variable {gt' : EnvD -> Option OT} {gts : EnvD -> Option (List OT)}
variable {gxs : EnvD -> Option (List En)} {n k : Nat} {m : List En -> Option En}
mutual
def OT.get : OT -> List Nat -> Option OT
  | t, [] => some t
  | .lst ts, k :: p => gets ts k p
  | .tup ts, k :: p => gets ts k p
  | .frz _, _ :: _ => none
def gets : List OT -> Nat -> List Nat -> Option OT
  | [], _, _ => none
  | t :: _, 0, p => t.get p
  | _ :: ts, k + 1, p => gets ts k p
end
mutual
def OT.put : OT -> List Nat -> OT -> OT
  | _, [], u => u
  | .lst ts, k :: p, u => .lst (puts ts k p u)
  | .tup ts, k :: p, u => .tup (puts ts k p u)
  | .frz d, _ :: _, _ => .frz d
def puts : List OT -> Nat -> List Nat -> OT -> List OT
  | [], _, _, _ => []
  | t :: ts, 0, p, u => t.put p u :: ts
  | t :: ts, k + 1, p, u => t :: puts ts k p u
end
structure At (K : KW) (F H : Hp) (ft : List Addr) (ds : List D) (b : Addr) (vs : List V) : Prop where
  hb : H b = some (.lst vs)
  rp : Rps K F ds vs
  mem : b ∈ ft
end
def OT.size : OT -> Option Nat
  | .lst ts => some ts.length
  | .tup ts => some ts.length
  | .frz _ => none
section
variable {X : Cx} {B : Bs} {e a b c o : Expr} {es : List Expr} {pos p p2 apos cpos : Pos} {g ga gb go : EnvD -> Option D} {gs : EnvD -> Option (List D)} {x nm : Str} {gp : EnvD -> Option (List Nat)}
variable {id : String} {r : V -> List V -> Hp -> VK -> Prop} {f : List D -> List D -> Option (List D)}
end
section
variable {ρ : EnvD} {i : Nat} {t : OT} {ga gb : EnvD -> Option D} {gs : EnvD -> Option (List D)} {gp : EnvD -> Option (List Nat)} {ds : List D} {gt' : EnvD -> Option OT} {gts : EnvD -> Option (List OT)} {gl : EnvD -> Option (List D)} {α : Type}
@[simp] theorem ev_gh : gh i ρ = match ρ[i]? with | some (some (.val d)) => some d | some (some (.acc ds)) => some (.lst ds) | some (some (.bor ds)) => some (.lst ds) | some (some (.tre t)) => some t.erase | _ => none := rfl
@[simp] theorem ev_eraseF {d : D} : (OT.frz d).erase = d := by simp [OT.erase]
@[simp] theorem ev_eraseT {ts : List OT} : (OT.tup ts).erase = .tup (erases ts) := by simp [OT.erase]
@[simp] theorem ev_erases0 : erases [] = [] := by simp [erases]
@[simp] theorem ev_erases1 {ts : List OT} : erases (t :: ts) = t.erase :: erases ts := by simp [erases]
end
section
variable {ρ : EnvD} {i k n m : Nat} {d x y : D} {ds es : List D} {a b j : Int} {α γ : Type} {ga gb gc' g : EnvD -> Option D} {ta tb : EnvD -> Option Bool} {gs : EnvD -> Option (List D)} {s1 s2 : SD} {p q : Str} {ns : List Int}
@[simp] theorem ev_fPlusI : fPlus (.int a) (.int b) = some (.int (a + b)) := rfl
@[simp] theorem ev_fPlusS : fPlus (.str p) (.str q) = if p.length + q.length <= TOP then some (.str (p ++ q)) else none := rfl
@[simp] theorem ev_fItemL : fItem (.lst ds) (.int a) = atI ds a := rfl
@[simp] theorem ev_fItemT : fItem (.tup ds) (.int a) = atI ds a := rfl
@[simp] theorem ev_fItemR : fItem (.scr ns) (.int a) = (atI ns a).map D.int := rfl
theorem ev_fItemS : fItem (.str p) (.int a) = if p.length <= TOP then (atI p.cps.toList a).map fun c => .str ⟨#[c]⟩ else none := rfl
@[simp] theorem ev_gSlS {gl gh : EnvD -> Option (Option Int)} : gSlS g gl gh ρ = (g ρ).bind fun d => (gl ρ).bind fun l => (gh ρ).bind fun h => match d with | .str z => if z.length <= TOP then some (.str (Txt.slice z l h)) else none | _ => none := rfl
@[simp] theorem ev_itLs : itL (.scr ns) = some (ns.map D.int) := rfl
@[simp] theorem ev_fCatS : fCatS x y = (itL x).bind fun xs => (itL y).bind fun ys => if xs.length + ys.length <= TOP then some (xs ++ ys) else none := rfl
@[simp] theorem ev_fIntI : fInt [.int a] = some (.int a) := rfl
@[simp] theorem ev_fIntB {b : Bool} : fInt [.bl b] = some (.int (if b then 1 else 0)) := rfl
@[simp] theorem ev_sAsg {t : Tgt} : sAsg t g ρ = (g ρ).bind fun d => (asgD t d ρ).map Fl.next := rfl
@[simp] theorem ev_tyR : tyD (.str p) = some "str" := rfl
@[simp] theorem ev_fListR : fList [.scr ns] = some (ns.map D.int) := rfl
theorem fEqB {neg u v : Bool} : fEq neg (.bl u) (.bl v) = some (.bl (if neg then !(u == v) else (u == v))) := by
  cases neg <;> cases u <;> cases v <;> rfl
theorem while_end {t : EnvD -> Option Bool} (h : t ρ = some false) : whileD t s1 (n + 1) ρ = some (.next ρ) := by
  rw [whileD, h]; rfl
theorem while_turn {t : EnvD -> Option Bool} {ρ2 : EnvD} (h : t ρ = some true) (h2 : s1 ρ = some (.next ρ2)) : whileD t s1 (n + 1) ρ = whileD t s1 n ρ2 := by
  rw [whileD, h]
  show ((s1 ρ).bind _) = _
  rw [h2]; rfl
theorem cut_hi {xs : List α} (h : 0 <= a) : cutD xs none (some a) = xs.take a.toNat := by
  simp only [cutD, HT.sIx]
  rw [if_neg (show ¬ a < 0 by omega)]
  simp only [Nat.sub_zero, List.drop_zero]
  by_cases h2 : a.toNat <= xs.length
  · rw [Nat.min_eq_left h2]
  · rw [Nat.min_eq_right (by omega), List.take_of_length_le (Nat.le_refl _), List.take_of_length_le (by omega)]
theorem cut_lo {xs : List α} (h : 0 <= a) : cutD xs (some a) none = xs.drop a.toNat := by
  simp only [cutD, HT.sIx]
  rw [if_neg (show ¬ a < 0 by omega)]
  by_cases h2 : a.toNat <= xs.length
  · rw [Nat.min_eq_left h2]
    exact List.take_of_length_le (by simp)
  · rw [Nat.min_eq_right (by omega), List.drop_of_length_le (Nat.le_refl _), List.drop_of_length_le (by omega)]; simp
theorem cut_map {β : Type} {f : α -> β} {xs : List α} {l h : Option Int} : cutD (xs.map f) l h = (cutD xs l h).map f := by
  unfold cutD; simp [List.map_drop, List.map_take]
theorem atI_pos {xs : List α} (h1 : 0 <= a) (h2 : a < xs.length) : ∃ v, atI xs a = some v /\ xs[a.toNat]? = some v := by
  obtain ⟨n, rfl⟩ : ∃ n : Nat, a = (n : Int) := ⟨a.toNat, by omega⟩
  have hl : n < xs.length := by omega
  exact ⟨xs[n], atI_at n (List.getElem?_eq_getElem hl), by simp [hl]⟩
theorem atI_map {β : Type} {f : α -> β} {xs : List α} : atI (xs.map f) a = (atI xs a).map f := by
  unfold atI
  rw [List.length_map]
  cases ixN xs.length a with
  | none => rfl
  | some j => simp
theorem atI_mem {xs : List α} {v : α} (h : atI xs a = some v) : v ∈ xs := by
  unfold atI at h
  cases q : ixN xs.length a with
  | none => rw [q] at h; cases h
  | some j => rw [q] at h; exact List.mem_of_getElem? h
def Tx (n : Nat) (x : Str) : Prop := PyData.strOk x = true /\ x.length <= n
theorem Tx.mono {x : Str} (h : Tx n x) (e : n <= m) : Tx m x := ⟨h.1, Nat.le_trans h.2 e⟩
theorem Tx.app {x y : Str} (h : Tx n x) (h' : Tx m y) : Tx (n + m) (x ++ y) := by
  refine ⟨?_, ?_⟩
  · show (x.cps ++ y.cps).all _ = true
    rw [Array.all_append]
    exact Bool.and_eq_true_iff.mpr ⟨h.1, h'.1⟩
  · show (x.cps ++ y.cps).size <= n + m
    rw [Array.size_append]
    have h1 := h.2
    have h2 := h'.2
    unfold Str.length at h1 h2
    omega
theorem Tx.slice {x : Str} {l u : Option Int} (h : Tx n x) : Tx n (Txt.slice x l u) := by
  refine ⟨?_, Nat.le_trans (Txt.slice_le x l u) h.2⟩
  unfold Txt.slice
  split
  · exact h.1
  · have h1 := h.1
    unfold PyData.strOk at h1 ⊢
    rw [Array.all_eq_true'] at h1
    rw [Array.all_eq_true']
    intro c hc
    simp only [List.mem_toArray, List.mem_filterMap] at hc
    obtain ⟨i, _, e⟩ := hc
    exact h1 c (Array.mem_of_getElem? e)
theorem Tx.item {z : Str} (h : Tx n z) (hn : n <= TOP) (h1 : 0 <= a) (h2 : a < z.length) : ∃ c, fItem (.str z) (.int a) = some (.str c) /\ Tx 1 c := by
  have hl : (z.cps.toList.length : Int) = z.length := by simp [Str.length]
  obtain ⟨c, e1, e2⟩ := atI_pos (xs := z.cps.toList) h1 (by omega)
  refine ⟨⟨#[c]⟩, ?_, ?_, Nat.le_refl _⟩
  · rw [ev_fItemS, if_pos (Nat.le_trans h.2 hn), e1]; rfl
  · have h1 := h.1
    unfold PyData.strOk at h1
    rw [Array.all_eq_true'] at h1
    have := h1 c (by simpa using List.mem_of_getElem? e2)
    unfold PyData.strOk
    simpa using this
theorem glue_ok (sep : Str) (hs : PyData.strOk sep = true) : ∀ (rest : List Str) (acc : Array Nat), acc.all (· < 0x110000) = true -> (∀ y ∈ rest, PyData.strOk y = true) -> (rest.foldl (fun acc p => acc ++ sep.cps ++ p.cps) acc).all (· < 0x110000) = true
  | [], _, h, _ => h
  | y :: rest, acc, h, hy => by
    rw [List.foldl_cons]
    refine glue_ok sep hs rest _ ?_ fun z hz => hy z (by simp [hz])
    rw [Array.all_append, Array.all_append]
    have h2 : y.cps.all (· < 0x110000) = true := hy y (by simp)
    have h3 : sep.cps.all (· < 0x110000) = true := hs
    rw [h, h2, h3]; rfl
theorem Tx.join0 {ys : List Str} (h : ∀ y ∈ ys, Tx 1 y) : Tx ys.length (Txt.join "" ys) := by
  have e0 : PyData.strOk ("" : Str) = true := by decide +kernel
  refine ⟨?_, ?_⟩
  · show ((ys.drop 1).foldl (fun acc p => acc ++ ("" : Str).cps ++ p.cps) (ys.headD Str.empty).cps).all (· < 0x110000) = true
    refine glue_ok "" e0 (ys.drop 1) _ ?_ fun y hy => (h y (List.mem_of_mem_drop hy)).1
    cases ys with
    | nil => simp [Str.empty]
    | cons y r => exact (h y (by simp)).1
  · show (Builtin.Str.glued "" ys).length <= ys.length
    rw [PySem.size_glued]
    have e1 : ("" : Str).length = 0 := by decide +kernel
    rw [e1, Nat.mul_zero, Nat.add_zero]
    have : ∀ l : List Str, (∀ y ∈ l, Tx 1 y) -> (l.map (·.length)).sum <= l.length := by
      intro l
      induction l with
      | nil => intro _; exact Nat.le_refl _
      | cons y r ih =>
        intro hh
        have h1 := (hh y (by simp)).2
        have h2 := ih fun z hz => hh z (by simp [hz])
        simp only [List.map_cons, List.sum_cons, List.length_cons]
        omega
    exact this ys h
theorem sum_len1 : ∀ {l : List Str}, (∀ y ∈ l, Tx 1 y) -> (l.map (·.length)).sum <= l.length
  | [], _ => Nat.le_refl _
  | y :: r, hh => by
    have h1 := (hh y (by simp)).2
    have h2 := sum_len1 fun z hz => hh z (List.mem_cons_of_mem _ hz)
    simp only [List.map_cons, List.sum_cons, List.length_cons]
    omega
theorem asSs_map : ∀ (ys : List Str), asSs (ys.map D.str) = some ys
  | [] => rfl
  | y :: ys => by simp [asSs, asSs_map ys]
end
def Its (z : Str) : It := ⟨fun i _ => i < z.cps.size, fun i H x H' => H' = H /\ ∃ c, z.cps[i]? = some c /\ x = .str ⟨#[c]⟩, fun i _ => i = z.cps.size⟩
theorem turn_strG {P : Program} {w : World} {K : PySem.W.Frag} {z : Str} {t : Tok} {it : Addr} {n : String}
    (W : ∀ A' : Around, A'.handled = none -> Walks P w A' it [it] [it] z.cps.size (SignAt z) (fun i h => h.IsStrIter it n z t i))
    (sf : ∀ (A : Around) (i : Nat) (s : Shared) (Q : Value -> Shared -> Prop) (E : Value -> Shared -> Prop), s.heap.IsStrIter it n z t i -> Q (.ref it) s -> wpAny (model P w) A (pyIter (.ref it)) Q E s)
    (hn : ["enumerate", "zip", "dict_itemiterator", "dict_reverseitemiterator", "odict_iterator", "itertools.zip_longest", "itertools.pairwise"].contains n = false) {tg : Expr} :
    Turn P w K tg (Its z) [it] it (fun i h => h.IsStrIter it n z t i) where
  mem := by simp
  obj := fun i h st b hb => by
    have e : b = it := by simpa using hb
    subst e
    obtain ⟨o, e, c, d⟩ := st
    exact ⟨o, e, fun v z => by rw [d] at z; cases z⟩
  keep := fun i h h' st k => let ⟨o, e, r⟩ := st; ⟨o, k it (by simp) o e, r⟩
  item := by
    intro X hP hw hK hc i pins s σ H E I hf st hg
    subst hP hw hK
    obtain ⟨f0, f1, f2, f3, f4, f5⟩ := hf it (by simp)
    refine (W X.A (I.ok.hd hc)).item i s _ _ hg st fun v h' tk hv st' kk => ?_
    obtain ⟨c, u, e, rfl⟩ := hv
    have I1 : Inv X pins σ H { s with heap := h', toks := tk } := I.turned (fun b o hb e => kk b o (by simpa using hb) e) f0 f1 f3 f4 f5
    obtain ⟨o, e1, e2, e3⟩ := id st'
    exact ⟨_, rfl, go_of (s := { s with heap := h', toks := tk }) e1 e2 e3 hn ⟨.str ⟨#[c]⟩, H, I1, ⟨u, rfl⟩, ⟨rfl, c, e, rfl⟩, st', fun b hb => (hf b hb).1⟩⟩
  done := by
    intro X hP hw hK hc i pins s σ H E I hf st hg
    subst hP hw hK
    obtain ⟨f0, f1, f2, f3, f4, f5⟩ := hf it (by simp)
    have hg : i = z.cps.size := hg
    subst hg
    exact (W X.A (I.ok.hd hc)).done s _ _ st fun h' tk kk => ⟨rfl, I.turned (t' := tk) (fun b o hb e => kk b o (by simpa using hb) e) f0 f1 f3 f4 f5⟩
  self := sf
def iStr (tl : TE) : TI := fun σ H R => tl σ H fun x H1 => ∃ z, x = .str z /\ R (Its z) H1
theorem pi_str {X : Cx} {tg l : Expr} {tl : TE} (hl : PE X l tl) : PI X tg l (iStr tl) := by
  intro pins s σ H R I h
  refine thn (hl pins s σ H _ I h) fun v s1 ⟨x, H1, I1, r1, q1⟩ => ?_
  obtain ⟨z, rfl, q⟩ := q1
  obtain ⟨t, rfl⟩ := r1
  have fin : ∀ {n : String} (o : Obj), o = { cls := .type n, data := .fields #[.str z t, .int 0 0] } -> Turn X.prog X.w X.kw tg (Its z) [s1.heap.objs.size] s1.heap.objs.size (fun i h => h.IsStrIter s1.heap.objs.size n z t i) -> PIE X pins σ tg R (.ref s1.heap.objs.size) { s1 with heap := s1.heap.push o } := by
    intro n o ho T
    subst ho
    refine ⟨s1.heap.objs.size, [s1.heap.objs.size], _, _, H1, rfl, I1.kept (t' := s1.toks) fun b o e => Heap.get?_push_of_some _ e, T, ⟨_, Heap.get?_push_size _ rfl, rfl, rfl⟩, fun b hb => ?_, q⟩
    have e : b = s1.heap.objs.size := by simpa using hb
    subst e
    exact I1.fpOk (Nat.le_refl _) (I1.hok.fresh (Nat.le_refl _))
  cases ha : z.cps.all (· < 128)
  · exact wpAny_pyIter_wide ha (fin _ rfl (turn_strG (fun A' hA => Walks.strWide hA _ z t) (fun A i s Q E st h => wpAny_pyIter_striter_wide st h) (by decide)))
  · exact wpAny_pyIter_ascii ha (fin _ rfl (turn_strG (fun A' hA => Walks.strAscii hA _ z t) (fun A i s Q E st h => wpAny_pyIter_striter_ascii st h) (by decide)))
section
variable {X : Cx} {B : Bs} {hb : Hp -> Hp} {e a b c o tg : Expr} {es : List Expr} {pos p p2 apos cpos : Pos} {g ga gb go : EnvD -> Option D} {gs : EnvD -> Option (List D)} {x : Str}
def chD (z : Str) : List D := z.cps.toList.map fun c => D.str ⟨#[c]⟩
def gItS (g : EnvD -> Option D) : EnvD -> Option (List D) := fun ρ => (g ρ).bind fun d => match d with
  | .str z => some (chD z)
  | _ => none
theorem di_str (h : DR X B e g) : DI X B hb tg e (gItS g) :=
  pi_imp (pi_str h) fun σ H R ⟨F, ρ, ds, r, hg, k⟩ => by
    unfold gItS at hg
    cases q : g ρ with
    | none => rw [q] at hg; cases hg
    | some d =>
      rw [q] at hg
      cases d with
      | str z =>
        cases hg
        refine ⟨F, ρ, _, r, q, fun v F1 H1 e1 p1 => ⟨z, p1.str, k _ F1 H1 e1 fun F2 H2 s1 s2 s3 i => ⟨fun hi => ?_, fun hi => ?_⟩⟩⟩
        · have hl : i < z.cps.size := by simpa [chD] using hi
          refine ⟨hl, fun y H3 hy => ?_⟩
          obtain ⟨rfl, c, hc, rfl⟩ := hy
          refine ⟨F2, .str ⟨#[c]⟩, .refl s2, ?_, rfl⟩
          unfold chD
          rw [List.getElem?_map]
          have : z.cps.toList[i]? = some c := by simpa using hc
          rw [this]; rfl
        · show i = z.cps.size
          simpa [chD] using hi
      | _ => cases hg
def toV : D -> Option V
  | .non => some .non
  | .bl b => some (.bl b)
  | .int i => some (.int i)
  | .str x => some (.str x)
  | _ => none
def toVs : List D -> Option (List V)
  | [] => some []
  | d :: ds => (toV d).bind fun v => (toVs ds).map (v :: ·)
theorem toV_rp {K : KW} {F : Hp} {d : D} {v w : V} (h : toV d = some v) (r : Rp K F d w) : w = v /\ flatV v = true := by
  cases d <;> first | (cases h; exact ⟨r, rfl⟩) | cases h
theorem toVs_rps {K : KW} {F : Hp} : ∀ {ds : List D} {vs ws : List V}, toVs ds = some vs -> Rps K F ds ws -> ws = vs /\ vs.all flatV = true
  | [], _, _, h, r => by cases h; cases r; exact ⟨rfl, rfl⟩
  | d :: ds, vs, ws, h, ⟨w, r, e, h1, h2⟩ => by
    subst e
    cases q1 : toV d with
    | none => rw [show toVs (d :: ds) = (toV d).bind fun v => (toVs ds).map (v :: ·) from rfl, q1] at h; cases h
    | some v =>
      cases q2 : toVs ds with
      | none => rw [show toVs (d :: ds) = (toV d).bind fun v => (toVs ds).map (v :: ·) from rfl, q1, q2] at h; cases h
      | some us =>
        rw [show toVs (d :: ds) = (toV d).bind fun v => (toVs ds).map (v :: ·) from rfl, q1, q2] at h
        cases h
        obtain ⟨e1, f1⟩ := toV_rp q1 h1
        obtain ⟨e2, f2⟩ := toVs_rps q2 h2
        subst e1; subst e2
        exact ⟨rfl, by rw [List.all_cons, f1, f2]; rfl⟩
def fIn (neg : Bool) : D -> D -> Option D
  | .str i, .str j => some (.bl (if neg then !(!(Builtin.Str.occurrences j i 0 j.length 1).isEmpty) else !(Builtin.Str.occurrences j i 0 j.length 1).isEmpty))
  | x, .lst ds => (toV x).bind fun v => (toVs ds).map fun vs => .bl (if neg then !inV v vs else inV v vs)
  | x, .tup ds => (toV x).bind fun v => (toVs ds).map fun vs => .bl (if neg then !inV v vs else inV v vs)
  | _, _ => none
def rInA (K : KW) (neg : Bool) : R2 := fun x y H Q => rIn K neg x y H Q ∨ ∃ i j, x = .str i /\ y = .str j /\ Q (.bl (if neg then !(!(Builtin.Str.occurrences j i 0 j.length 1).isEmpty) else !(Builtin.Str.occurrences j i 0 j.length 1).isEmpty)) H
theorem op_inA : OpR X (compareOp .In) (rInA X.kw false) := op_in_seq.or op_in_str
theorem ok_in {K : KW} {neg : Bool} : OkR K (rInA K neg) (pE K) (fIn neg) := by
  intro F H x y dx dy d Q s rx ry e k
  have seq : ∀ {v : V} {ds : List D} {vs ws : List V} {a : Addr}, toV dx = some v -> toVs ds = some vs -> Rps K F ds ws -> y = .ref a -> (SqL K H a ws ∨ SqT K H a ws) -> d = .bl (if neg then !inV v vs else inV v vs) -> rInA K neg x y H Q := by
    intro v ds vs ws a h1 h2 h3 h4 h5 h6
    obtain ⟨e2, f2⟩ := toVs_rps h2 h3
    have hx : x = v /\ flatV v = true := by
      cases dx with
      | non => cases h1; exact ⟨rx.non, rfl⟩
      | bl b => cases h1; exact ⟨rx.bl, rfl⟩
      | int b => cases h1; exact ⟨rx.int, rfl⟩
      | str b => cases h1; exact ⟨rx.str, rfl⟩
      | _ => cases h1
    subst e2
    subst h6
    exact .inl ⟨a, ws, h4, h5, by rw [hx.1]; exact hx.2, f2, by rw [hx.1]; exact k _ F H (.refl s) rfl⟩
  have two : ∀ {ds : List D}, ((toV dx).bind fun v => (toVs ds).map fun vs => D.bl (if neg then !inV v vs else inV v vs)) = some d -> ∃ v vs, toV dx = some v /\ toVs ds = some vs /\ d = .bl (if neg then !inV v vs else inV v vs) := by
    intro ds h
    cases q1 : toV dx with
    | none => rw [q1] at h; cases h
    | some v =>
      cases q2 : toVs ds with
      | none => rw [q1, q2] at h; cases h
      | some vs => rw [q1, q2] at h; cases h; exact ⟨v, vs, rfl, rfl, rfl⟩
  cases dy with
  | lst ds =>
    obtain ⟨v, vs, q1, q2, q3⟩ := two (ds := ds) (by cases dx <;> exact e)
    obtain ⟨a, ws, h1, h2, h3⟩ := ry.lst s
    exact seq q1 q2 h3 h1 (.inl (.of h2)) q3
  | tup ds =>
    obtain ⟨v, vs, q1, q2, q3⟩ := two (ds := ds) (by cases dx <;> exact e)
    obtain ⟨a, ws, h1, h2, h3⟩ := ry.tup s
    exact seq q1 q2 h3 h1 (.inr (.of h2)) q3
  | str j =>
    cases dx with
    | str i => cases e; exact .inr ⟨_, _, rx.str, ry.str, k _ F H (.refl s) rfl⟩
    | _ => cases e
  | _ => cases dx <;> cases e
theorem op_isB : OpR X (compareOp .Is) (fun x y H Q => ∃ u v, x = .bl u /\ y = .bl v /\ Q (.bl (u == v)) H) := by
  intro pins s σ H x y v u Q I rx ry h
  obtain ⟨b, c, rfl, rfl, q⟩ := h
  cases rx
  cases ry
  exact wpAny_pure ⟨.bl (b == c), H, I, by cases b <;> cases c <;> rfl, q⟩
def fIsB (neg : Bool) : D -> D -> Option D
  | .bl u, .bl v => some (.bl (if neg then !(u == v) else u == v))
  | _, _ => none
theorem ok_isB {K : KW} : OkR K (fun x y H Q => ∃ u v, x = .bl u /\ y = .bl v /\ Q (.bl (u == v)) H) (pE K) (fIsB false) := by
  intro F H x y dx dy d Q s rx ry e k
  unfold fIsB at e
  split at e
  · cases e; exact ⟨_, _, rx.bl, ry.bl, k _ F H (.refl s) rfl⟩
  · cases e
end
section
variable {ρ : EnvD} {g : EnvD -> Option D} {ds : List D} {a : Int} {u v : Bool} {p q : Str} {neg : Bool}
@[simp] theorem ev_gItS : gItS g ρ = (g ρ).bind fun d => match d with | .str z => some (chD z) | _ => none := rfl
@[simp] theorem ev_fIsB : fIsB neg (.bl u) (.bl v) = some (.bl (if neg then !(u == v) else u == v)) := rfl
@[simp] theorem ev_fInS : fIn neg (.str p) (.str q) = some (.bl (if neg then !(!(Builtin.Str.occurrences q p 0 q.length 1).isEmpty) else !(Builtin.Str.occurrences q p 0 q.length 1).isEmpty)) := rfl
end
theorem toVs_strs : ∀ (ys : List Str), toVs (ys.map D.str) = some (ys.map V.str)
  | [] => rfl
  | y :: ys => by simp [toVs, toV, toVs_strs ys]
theorem inV_strs (x : Str) : ∀ (ys : List Str), inV (.str x) (ys.map V.str) = decide (x ∈ ys)
  | [] => rfl
  | y :: ys => by
    have ih := inV_strs x ys
    unfold inV at ih ⊢
    rw [List.map_cons, List.any_cons, ih]
    show ((y == x) || decide (x ∈ ys)) = _
    by_cases h : x = y
    · subst h; simp
    · have h' : ¬ y = x := fun z => h z.symm
      simp [h, h']
theorem fIn_strs {neg : Bool} {x : Str} {ys : List Str} : fIn neg (.str x) (.lst (ys.map D.str)) = some (.bl (if neg then !decide (x ∈ ys) else decide (x ∈ ys))) := by
  show ((toV (.str x)).bind fun v => (toVs (ys.map D.str)).map fun vs => D.bl (if neg then !inV v vs else inV v vs)) = _
  rw [toVs_strs]
  show some (D.bl (if neg then !inV (.str x) (ys.map V.str) else inV (.str x) (ys.map V.str))) = _
  rw [inV_strs]
def dKey : D -> Option Key
  | .int i => some (.inl i)
  | .str x => some (.inr x)
  | _ => none
def kD : Key -> D
  | .inl i => .int i
  | .inr x => .str x
theorem dKey_some {d : D} {k : Key} (h : dKey d = some k) : d = kD k := by
  cases d <;> cases h <;> rfl
theorem rp_key {K : KW} {F : Hp} {k : Key} {v : V} (r : Rp K F (kD k) v) : v = kV k := by cases k <;> exact r
theorem rq_key {K : KW} {F H : Hp} {k : Key} {v : V} (r : Rq K F H (kD k) v) : v = kV k := by
  refine rp_key (r.one fun ds h => ?_)
  cases k <;> cases h
def lookD (kvs : List (Key × D)) (k : Key) : Option D := (kvs.find? fun p => decide (p.1 = k)).map (·.2)
def putD (kvs : List (Key × D)) (k : Key) (d : D) : List (Key × D) :=
  if (kvs.any fun p => decide (p.1 = k)) = true then kvs.map (fun p => if p.1 = k then (p.1, d) else p) else kvs ++ [(k, d)]
section
variable {K : KW} {F : Hp}
theorem Rkv.length {kvs : List (Key × D)} {vs : List (Key × V)} (r : Rkv K F kvs vs) : kvs.length = vs.length := Paired.length r
theorem Rkv.look {kvs : List (Key × D)} {vs : List (Key × V)} (r : Rkv K F kvs vs) (k : Key) : (lookD kvs k = none /\ valV vs k = none) ∨ ∃ d v, lookD kvs k = some d /\ valV vs k = some v /\ Rp K F d v := by
  unfold Rkv at r
  induction r with
  | nil => exact .inl ⟨rfl, rfl⟩
  | @cons p q ps qs h t ih =>
    by_cases e : p.1 = k
    · refine .inr ⟨p.2, q.2, by simp [lookD, e], valV_pos (h.1 ▸ e), h.2⟩
    · rw [show lookD (p :: ps) k = lookD ps k by simp [lookD, e], valV_neg (fun z => e (h.1.trans z))]
      exact ih
theorem Rkv.any {kvs : List (Key × D)} {vs : List (Key × V)} (r : Rkv K F kvs vs) (k : Key) : (kvs.any fun p => decide (p.1 = k)) = (vs.any fun p => decide (p.1 = k)) := by
  unfold Rkv at r
  induction r with
  | nil => rfl
  | @cons p q ps qs h t ih => simp only [List.any_cons, ih, h.1]
theorem Rkv.repl {k : Key} {d : D} {v : V} (rd : Rp K F d v) : ∀ {kvs : List (Key × D)} {vs : List (Key × V)}, Rkv K F kvs vs -> Rkv K F (kvs.map fun p => if p.1 = k then (p.1, d) else p) (vs.map fun p => if p.1 = k then (p.1, v) else p) := by
  intro kvs vs r
  unfold Rkv at r ⊢
  induction r with
  | nil => exact .nil
  | @cons p q ps qs h t ih =>
    refine .cons ?_ ih
    show (if p.1 = k then (p.1, d) else p).1 = (if q.1 = k then (q.1, v) else q).1 /\ Rp K F (if p.1 = k then (p.1, d) else p).2 (if q.1 = k then (q.1, v) else q).2
    by_cases e : p.1 = k
    · rw [if_pos e, if_pos (h.1.symm.trans e)]; exact ⟨h.1, rd⟩
    · rw [if_neg e, if_neg (fun z => e (h.1.trans z))]; exact h
theorem Rkv.put {kvs : List (Key × D)} {vs : List (Key × V)} (r : Rkv K F kvs vs) (k : Key) {d : D} {v : V} (rd : Rp K F d v) : Rkv K F (putD kvs k d) (putK vs k v) := by
  unfold putD putK
  rw [r.any k]
  by_cases q : (vs.any fun p => decide (p.1 = k)) = true
  · rw [if_pos q, if_pos q]; exact r.repl rd
  · rw [if_neg q, if_neg q]; exact Paired.snoc r ⟨rfl, rd⟩
end
def pD (K : KW) : Post (List (Key × D)) := fun _ H F' H' kvs v => ∃ a ob vs, v = .ref a /\ H a = none /\ H' a = some (DX K.w a ob vs) /\ F' a = none /\ Rkv K F' kvs vs
def pK (K : KW) : Post (List (Key × D)) := fun _ _ F' H' kvs v => ∃ a ob vs, v = .ref a /\ H' a = some (DX K.w a ob vs) /\ Rkv K F' kvs vs
def DD (X : Cx) (B : Bs) (e : Expr) (g : EnvD -> Option (List (Key × D))) : Prop := PE X e (lG X.kw B (pD X.kw) g)
def DK (X : Cx) (B : Bs) (e : Expr) (g : EnvD -> Option (List (Key × D))) : Prop := PE X e (lG X.kw B (pK X.kw) g)
section
variable {X : Cx} {B : Bs} {e a b c o i : Expr} {es : List Expr} {pos p apos cpos pos' : Pos} {g ga gi gv' : EnvD -> Option D} {gk gk2 : EnvD -> Option (List (Key × D))} {gs gxs : EnvD -> Option (List D)} {x : Str}
def gk' (i : Nat) : EnvD -> Option (List (Key × D)) := fun ρ => match ρ[i]? with
  | some (some (.dct _ kvs)) => some kvs
  | some (some (.dbo kvs)) => some kvs
  | _ => none
theorem dk_var (i : Nat) (h : PE X (.Name x pos) (tVar i)) : DK X B (.Name x pos) (gk' i) :=
  pe_imp h fun σ H Q ⟨F, ρ, d, r, hg, k⟩ => by
    unfold gk' at hg
    split at hg
    · rename_i oa kvs e
      cases hg
      obtain ⟨v, h1, a, ob, vs, e1, e2, e3, e4, e5, e6⟩ := r.ents i _ e
      exact ⟨v, h1, k v F H (.refl r.fh) ⟨a, ob, vs, e1, e2, e5⟩⟩
    · rename_i kvs e
      cases hg
      obtain ⟨v, h1, a, ob, vs, e1, e2, e5⟩ := r.ents i _ e
      exact ⟨v, h1, k v F H (.refl r.fh) ⟨a, ob, vs, e1, r.ex.hh _ _ e2, e5⟩⟩
    · cases hg
def gNewD : EnvD -> Option (List (Key × D)) := fun _ => some []
theorem dd_new : DD X B (.Dict [] [] pos) gNewD := pe_imp pe_xnew fun σ H Q ⟨F, ρ, d, r, hg, k⟩ => by
  cases hg
  exact fun q ob hn => k _ F _ (.new r.fh hn) ⟨q, ob, [], rfl, hn, upd_same, r.fh.free hn, .nil⟩
def gInD (neg : Bool) (gi : EnvD -> Option D) (gk : EnvD -> Option (List (Key × D))) : EnvD -> Option D := fun ρ => ((gi ρ).bind dKey).bind fun k => (gk ρ).map fun kvs => .bl (neg ^^ (lookD kvs k).isSome)
theorem inD_some {neg : Bool} {ρ : EnvD} {d : D} (hg : gInD neg gi gk ρ = some d) : ∃ ky kvs, gi ρ = some (kD ky) /\ gk ρ = some kvs /\ d = .bl (neg ^^ (lookD kvs ky).isSome) := by
  unfold gInD at hg
  cases q2 : gi ρ with
  | none => rw [q2] at hg; cases hg
  | some di =>
    rw [q2] at hg
    have hg : ((dKey di).bind fun k => (gk ρ).map fun kvs => D.bl (neg ^^ (lookD kvs k).isSome)) = some d := hg
    cases q3 : dKey di with
    | none => rw [q3] at hg; cases hg
    | some ky =>
      rw [q3] at hg
      cases q1 : gk ρ with
      | none => rw [q1] at hg; cases hg
      | some kvs =>
        rw [q1] at hg
        cases hg
        exact ⟨ky, kvs, by rw [dKey_some q3], rfl, rfl⟩
theorem look_eq {K : KW} {F : Hp} {kvs : List (Key × D)} {vs : List (Key × V)} (r : Rkv K F kvs vs) (k : Key) : (valV vs k).isSome = (lookD kvs k).isSome := by
  rcases r.look k with ⟨z1, z2⟩ | ⟨d, w, z1, z2, _⟩ <;> rw [z1, z2] <;> rfl
def sPutD (j : Nat) (gi g : EnvD -> Option D) : SD := fun ρ => match ρ[j]? with
  | some (some (.dct oa kvs)) => (g ρ).bind fun d => ((gi ρ).bind dKey).bind fun k => if kvs.length < sizeLine then some (.next (ρ.set j (some (.dct oa (putD kvs k d))))) else none
  | _ => none
theorem ds_putD (j : Nat) (hx : PE X (.Name x p) (tVar j)) (hi : DR X B i gi) (he : DE X B e g) (hs : swapsWith e (some (.Subscript (.Name x p) i pos')) pos.line X.env = pure false := by rfl) :
    DS X B (.Assign [.Subscript (.Name x p) i pos'] e pos) (sPutD j gi g) :=
  ps_imp (ps_xput hx hi he hs) fun E σ H ⟨F, ρ, fl, r, hg, k⟩ => by
    unfold sPutD at hg
    split at hg
    · rename_i oa kvs q
      cases q2 : g ρ with
      | none => rw [q2] at hg; cases hg
      | some d =>
        cases q3 : gi ρ with
        | none => rw [q2, q3] at hg; cases hg
        | some di =>
          rw [q2, q3] at hg
          have hg : ((dKey di).bind fun k => if kvs.length < sizeLine then some (Fl.next (ρ.set j (some (.dct oa (putD kvs k d))))) else none) = some fl := hg
          cases q4 : dKey di with
          | none => rw [q4] at hg; cases hg
          | some ky =>
            rw [q4] at hg
            have hg : (if kvs.length < sizeLine then some (Fl.next (ρ.set j (some (.dct oa (putD kvs ky d))))) else none) = some fl := hg
            split at hg
            · rename_i hz
              cases hg
              have hd := dKey_some q4
              subst hd
              refine ⟨F, ρ, d, r, q2, fun w F1 H1 e1 p1 => ?_⟩
              have r1 := r.ext e1
              obtain ⟨v, hv, _⟩ := r1.ents j _ q
              refine ⟨v, hv, F1, ρ, _, r1, q3, fun u F2 H2 e2 p2 => ?_⟩
              have r2 := r1.ext e2
              obtain ⟨v', hv', a, ob, vs, e', f1, f2, f3, f4, f5⟩ := r2.ents j _ q
              rw [hv] at hv'; cases hv'; subst e'
              refine ⟨a, ob, vs, ky, rfl, f1, rq_key p2, by rw [<- f4.length]; exact hz, fun ob' => k σ F2 _ ?_ (e1.ff.trans e2.ff)⟩
              exact r2.write q rfl hv f2 f3 ⟨a, ob', _, rfl, upd_same, f2, f3, f4.put ky (Rp.mono e2.ff p1), f5⟩ rfl
            · cases hg
    · cases hg
end
section
variable {X : Cx} {B : Bs} {e a b c o i : Expr} {es : List Expr} {pos p apos cpos pos' : Pos} {g ga gi gv' : EnvD -> Option D} {gk gk2 : EnvD -> Option (List (Key × D))} {gs : EnvD -> Option (List D)} {gxs : EnvD -> Option (List En)} {x : Str}
def sSetD (j : Nat) (g : EnvD -> Option (List (Key × D))) : SD := fun ρ => (g ρ).map fun kvs => .next (ρ.set j (some (.dct none kvs)))
theorem new_apart {K : KW} {F H : Hp} {σ : St} {ρ : EnvD} {F1 H1 : Hp} (r : Rep K B F σ H ρ) (e : Ext F H F1 H1) {a : Addr} (n : H a = none) : ∀ (j : Nat) y w, ρ[j]? = some (some y) -> σ[j]? = some (some w) -> a ∉ feetE H1 y w := fun j y w h1 h2 ha => by
  obtain ⟨w', q, ry⟩ := r.ents j y h1
  rw [h2] at q; cases q
  rw [ry.feet_ext e.hh] at ha
  exact (ry.feet_at ha).1 n
theorem ds_setD {j : Nat} {y : Str} {pos' : Pos} (hN : X.N.Nodup) (hi : X.N[j]? = some y) (hx : Loc X.env.scope y) (he : DD X B e gk) (hs : swapsWith e (some (.Name y pos')) pos.line X.env = pure false := by rfl) (hf : X.fn y = true ∨ X.env.scope.names.lookup y = some .local := by first | exact .inl rfl | exact .inr rfl) :
    DS X B (.Assign [.Name y pos'] e pos) (sSetD j gk) := ps_imp (ps_set hN hi hx he hs hf) fun E σ H ⟨F, ρ, fl, r, hg, k⟩ => by
  unfold sSetD at hg
  cases q : gk ρ with
  | none => rw [q] at hg; cases hg
  | some kvs =>
    rw [q] at hg
    cases hg
    refine ⟨F, ρ, kvs, r, q, fun v F1 H1 e1 ⟨a, ob, vs, h1, h2, h3, h4, h5⟩ => k _ F1 H1 ((r.ext e1).seto (x := .dct none kvs) ⟨a, ob, vs, h1, h3, h4, r.ex.hh.free h2, h5, fun _ z => nomatch z⟩ fun j' y w q1 q2 _ b hb => ?_) e1.ff⟩
    subst h1
    simp only [feetE, List.mem_singleton] at hb
    subst hb
    exact new_apart r e1 h2 j' y w q1 q2
variable {k n : Nat} {m : List En -> Option En}
end
section
variable {K : KW} {F : Hp}
end
section
variable {X : Cx} {B : Bs} {e a b c o i tg : Expr} {es : List Expr} {pos p apos cpos pos' : Pos} {g ga gi gv' : EnvD -> Option D} {gk gk2 : EnvD -> Option (List (Key × D))} {gs : EnvD -> Option (List D)} {x : Str}
end
section
variable {X : Cx} {B : Bs} {e a b c o i tg : Expr} {es : List Expr} {pos p apos cpos pos' : Pos} {g ga gi gv' : EnvD -> Option D} {gk gk2 : EnvD -> Option (List (Key × D))} {gs : EnvD -> Option (List D)} {x : Str}
theorem dt_pc {op : CmpOp} {t : TE} (h : PC X op a b t) (k : ∀ σ H Q, lG X.kw B (pE X.kw) g σ H Q -> t σ H Q) (hm : behindInMarks op b = false) : DT X B (.Compare a [op] [b] pos) (gb' g) :=
  pt_imp (pt_cmp h hm) fun σ H Q ⟨F, ρ, y, r, hg, k'⟩ => by
    unfold gb' at hg
    cases q : g ρ with
    | none => rw [q] at hg; cases hg
    | some d =>
      rw [q] at hg
      have hd : d = .bl y := by
        cases d <;> cases hg
        rfl
      subst hd
      exact k σ H _ ⟨F, ρ, _, r, q, fun v F' H' e p => ⟨y, p, k' F' H' e⟩⟩
theorem inD_imp {σ : St} {H : Hp} {Q : VK} (h : lG X.kw B (pE X.kw) (gInD false gi gk) σ H Q) : tXIn X.prog X.w (lG X.kw B (pR X.kw) gi) (lG X.kw B (pK X.kw) gk) σ H Q := by
  obtain ⟨F, ρ, d, r, hg, k⟩ := h
  obtain ⟨ky, kvs, q1, q2, rfl⟩ := inD_some hg
  refine ⟨F, ρ, _, r, q1, fun u F1 H1 e1 p1 => ⟨F1, ρ, kvs, r.ext e1, q2, fun v F2 H2 e2 ⟨a, ob, vs, h1, h2, h3⟩ => ⟨a, ob, vs, ky, h1, h2, rq_key p1, ?_⟩⟩⟩
  rw [look_eq h3]
  exact k _ F2 H2 (e1.trans e2) (by simp; rfl)
theorem dt_inD (hi : DR X B i gi) (ho : DK X B o gk) (hm : behindInMarks .In o = false := by rfl) : DT X B (.Compare i [.In] [o] pos) (gb' (gInD false gi gk)) := dt_pc (pc_xin hi ho) (fun _ _ _ h => inD_imp h) hm
end
def without (H : Hp) (a : Addr) : Hp := fun b => if b = a then none else H b
def lSp (K : KW) (n : Nat) (m : Addr -> List (Key × D) -> List En -> Option (List (Key × D))) : Sp := fun vs H Q _ =>
  ∃ F kvs xs kvs' a ob ws us, vs = .ref a :: us /\ Same F H /\ F a = none /\ H a = some (DX K.w a ob ws) /\ Rkv K F kvs ws /\ xs.length + 1 = n /\ Paired (fun x v => ArgE K F (without H a) x v) xs us /\ m a kvs xs = some kvs' /\
    ∀ F' H' ob' ws', Ext F (without H a) F' H' -> H' a = some (DX K.w a ob' ws') -> F' a = none -> Rkv K F' kvs' ws' -> Q .non H'
section
variable {P : Program} {w : World} {K : PySem.W.Frag} {mg : Str -> Option Value} {base : Heap}
structure Lx (P : Program) (w : World) (K : PySem.W.Frag) (mg : Str -> Option Value) (base : Heap) (x : Str) (k n : Nat) (m : List (Key × D) -> List En -> Option (List (Key × D))) : Prop where
  ex : ∃ f fd ps m', FnOk P w K mg base CX0 k f fd ps (lSp ⟨K, w⟩ n m') /\ mg x = some (.ref f) /\ PySem.W.keepIn K (.ref f) = true /\ Binds K fd ps [] /\ ∀ a kvs xs, xs.length + 1 = n -> m' a kvs xs = m kvs xs
end
section
variable {X : Cx} {B : Bs} {es : List Expr} {pos p p1 cpos : Pos} {gxs : EnvD -> Option (List En)} {x y : Str} {k n : Nat} {m : List (Key × D) -> List En -> Option (List (Key × D))}
end
section
variable {X : Cx} {B : Bs} {a b : Expr} {pos : Pos} {ga gb : EnvD -> Option D}
end
section
variable {ρ : EnvD} {i j n : Nat} {d : D} {ds : List D} {kvs : List (Key × D)} {oa : Option Addr} {gi g : EnvD -> Option D} {gk gk2 : EnvD -> Option (List (Key × D))} {gs : EnvD -> Option (List D)}
@[simp] theorem ev_gk : gk' i ρ = match ρ[i]? with | some (some (.dct _ kvs)) => some kvs | some (some (.dbo kvs)) => some kvs | _ => none := rfl
@[simp] theorem ev_gNewD : gNewD ρ = some [] := rfl
@[simp] theorem ev_gInD {neg : Bool} : gInD neg gi gk ρ = ((gi ρ).bind dKey).bind fun k => (gk ρ).map fun kvs => .bl (neg ^^ (lookD kvs k).isSome) := rfl
@[simp] theorem ev_sSetD : sSetD j gk ρ = (gk ρ).map fun kvs => .next (ρ.set j (some (.dct none kvs))) := rfl
@[simp] theorem ev_sPutD : sPutD j gi g ρ = match ρ[j]? with | some (some (.dct oa kvs)) => (g ρ).bind fun d => ((gi ρ).bind dKey).bind fun k => if kvs.length < sizeLine then some (.next (ρ.set j (some (.dct oa (putD kvs k d))))) else none | _ => none := rfl
@[simp] theorem ev_dKeyS {x : Str} : dKey (.str x) = some (.inr x) := rfl
@[simp] theorem ev_dKeyI {k : Int} : dKey (.int k) = some (.inl k) := rfl
end
end Dv
namespace L4
open PySem PySem.Spec L2 L3
open PyProof.Rows hiding St
end L4
namespace Dv
open PySem PySem.Spec L2 L3 L4
open PyProof.Rows hiding St
section
variable {X : Cx} {B : Bs} {e a b c o i tg st : Expr} {es elts : List Expr} {pos p p2 apos cpos pos' tpos : Pos} {tk : Nat} {g ga gi gv' : EnvD -> Option D} {gk gk2 : EnvD -> Option (List (Key × D))} {gs : EnvD -> Option (List D)} {gxs : EnvD -> Option (List En)} {x : Str}
def mN (m : List En -> Option En) : List En -> Option En := fun xs => m (xs ++ [.val .non])
end
structure FunD (K : PySem.W.Frag) (x qual : Str) (st : Stmt) (f : Addr) (fd : FuncData) : Prop where
  ex : ∃ (oc dV : Value) (od : Option Addr) (kV doc pm : Value) (an : Option Addr) (cdv ct : Value) (osl : Array (Option Value)),
    fd = PySem.W.fnOf x qual (defArgs st) (defBody st) (defScope st) dV kV doc pm an cdv ct /\ K.lookup f = some ⟨oc, od, .func fd, osl⟩ /\ PySem.W.codeIn K cdv qual = true
  kp : PySem.W.keepIn K (.ref f) = true
section
variable {P : Program} {w : World} {K : PySem.W.Frag} {mg : Str -> Option Value} {base : Heap}
structure FxN (P : Program) (w : World) (K : PySem.W.Frag) (mg : Str -> Option Value) (base : Heap) (x : Str) (k n : Nat) (m : List En -> Option En) : Prop where
  ex : ∃ f fd ps, FnOk P w K mg base CX0 k f fd ps (pSp ⟨K, w⟩ n (len? n m)) /\ mg x = some (.ref f) /\ PySem.W.keepIn K (.ref f) = true /\ Binds K fd ps [.none]
end
section
variable {X : Cx} {B : Bs} {e : Expr} {es : List Expr} {pos p : Pos} {gxs : EnvD -> Option (List En)} {x : Str} {k n : Nat} {m : List En -> Option En}
end
section
variable {ρ : EnvD} {g gi : EnvD -> Option D} {m : List En -> Option En} {xs : List En}
@[simp] theorem ev_mN : mN m xs = m (xs ++ [.val .non]) := rfl
end
section
variable {X : Cx} {B : Bs} {e c tg iter : Expr} {pos p1 p2 : Pos} {ge : EnvD -> Option D} {t : EnvD -> Option Bool} {gi : EnvD -> Option (List D)} {gbd : SD}
end
end Dv
namespace L4
open PySem PySem.Spec L2 L3
open PyProof.Rows hiding St
section
variable {prog : Program} {w : World} {A : Around} {E : Value -> Shared -> Prop} {s : Shared}
end
section
variable {X : Cx} {o a b : Expr} {pos p2 : Pos} {to ta tb : TE}
end
end L4
namespace Dv
open PySem PySem.Spec L2 L3 L4
open PyProof.Rows hiding St
section
variable {X : Cx} {B : Bs} {e ae be : Expr} {p p2 tpos pos : Pos} {ga gb : EnvD -> Option D} {gl : EnvD -> Option (List D)} {x : Str}
end
section
variable {X : Cx} {B : Bs} {hb : Hp -> Hp} {e a b c o tg : Expr} {es : List Expr} {pos p p2 apos cpos : Pos} {g ga gb go : EnvD -> Option D} {gs : EnvD -> Option (List D)} {x : Str}
end
def leT (a b : Str) : Bool := !ltCps b.cps.toList a.cps.toList
section
variable {X : Cx} {B : Bs} {hb : Hp -> Hp} {e a b c o tg : Expr} {es : List Expr} {pos p p2 apos cpos : Pos} {g ga gb go : EnvD -> Option D} {gs : EnvD -> Option (List D)} {x : Str}
end
end Dv
namespace L4
open PySem PySem.Spec L2 L3
open PyProof.Rows hiding St
section
variable {prog : Program} {w : World} {A : Around} {E : Value -> Shared -> Prop} {s : Shared} {T : String} {r d : Addr} {n : Nat} {P : Nat -> Value -> Prop} {OK : Heap -> Prop}
end
end L4
namespace Dv
open PySem PySem.Spec L2 L3 L4
open PyProof.Rows hiding St
section
variable {X : Cx} {B : Bs} {o : Expr} {pos p : Pos} {gk : EnvD -> Option (List (Key × D))} {x : Str}
end
section
variable {K : KW} {B : Bs} {F H : Hp} {σ : St} {ρ : EnvD}
end
section
variable {X : Cx} {B : Bs} {tg e ck : Expr} {es : List Expr} {x y nm : Str} {pos p2 p3 p4 p5 apos cpos : Pos} {id : String} {r : V -> List V -> Hp -> VK -> Prop} {f : List D -> List D -> Option (List D)} {gs : EnvD -> Option (List D)} {dd : List D}
end
end Dv
namespace L4
open PySem PySem.Spec L2 L3
open PyProof.Rows hiding St
section
variable {prog : Program} {w : World} {A : Around} {E : Value -> Shared -> Prop} {s : Shared}
end
section
variable {X : Cx} {a : Expr} {ta : TA} {p p2 pos pos2 : Pos}
end
end L4
namespace Dv
open PySem PySem.Spec L2 L3 L4
open PyProof.Rows hiding St
section
variable {X : Cx} {B : Bs} {a : Expr} {p p2 pos pos2 : Pos} {gs : EnvD -> Option (List D)}
end
section
variable {X : Cx} {B : Bs} {e : Expr} {es : List Expr} {pos p : Pos} {g : EnvD -> Option En} {gxs : EnvD -> Option (List En)} {x : Str}
def scal : D -> Bool
  | .int _ => true
  | .bl _ => true
  | .non => true
  | .str _ => true
  | _ => false
variable {k n : Nat} {m : List En -> Option En}
end
section
variable {K : KW} {B : Bs} {F H : Hp} {σ : St} {ρ : EnvD}
end
section
variable {X : Cx} {B : Bs} {e ck ck0 ck1 : Expr} {x y z : Str} {pos pos1 pos2 p p1 p2 p3 p4 p5 p6 p7 pos' apos cpos : Pos} {g : EnvD -> Option D}
end
section
variable {X : Cx} {B : Bs} {e : Expr} {es : List Expr} {pos p : Pos} {gxs : EnvD -> Option (List En)} {x : Str} {k n : Nat} {m : List En -> Option En}
end
section
variable {X : Cx} {B : Bs} {e : Expr} {pos : Pos} {g : EnvD -> Option D}
end
section
variable {X : Cx} {B : Bs} {tg iter elt : Expr} {ifs : List Expr} {pos : Pos} {gi : EnvD -> Option OT}
end
section
variable {X : Cx} {B : Bs} {o : Expr} {apos cpos pos p : Pos} {x : Str} {td : TE}
end
end Dv
namespace L6
open PySem PySem.Spec L2 L3 L4
open PyProof.Rows hiding St
def tupO (vs : List Value) : Obj := { cls := .type "tuple", data := .seq vs.toArray }
def excO (C t : Addr) : Obj := { cls := .ref C, data := .fields #[.ref t, .none, .none, .none, .bool false, .none] }
def made (H : Heap) (C : Addr) (vs : List Value) : Heap := (H.push (tupO vs)).push (excO C H.objs.size)
section
variable {H : Heap} {C M : Addr} {vs : List Value}
theorem made_old {a : Addr} {o : Obj} (q : H.get? a = some o) : (made H C vs).get? a = some o := Heap.get?_push_of_some _ (Heap.get?_push_of_some _ q)
theorem made_new : (made H C vs).get? (H.objs.size + 1) = some { cls := .ref C, data := .fields #[.ref H.objs.size, .none, .none, .none, .bool false, .none] } := by unfold made excO tupO; heap_get
theorem made_ns {m : Str -> Option Value} (q : H.Ns M m) : (made H C vs).Ns M m := by
  obtain ⟨o, x, y, z, r⟩ := q
  exact ⟨o, x, y, made_old z, r⟩
theorem made_of : Heap.MadeExcOf H (made H C vs) (H.objs.size + 1) (.ref C) vs :=
  ⟨fun _ _ q => made_old q, Heap.get?_none_of_le (Nat.le_succ _), H.objs.size, made_new, Heap.get?_none_of_le (Nat.le_refl _), Heap.get?_push_of_some _ (Heap.get?_push_at rfl rfl)⟩
end
section
variable {P : Program} {w : World} {A : Around} {E : Value -> Shared -> Prop} {H : Heap} {g : Array GenState} {dr : Drawn} {t : Nat} {os : OsState} {C N fI : Addr} {oI : Obj} {vs : List Value} {mN : Str -> Option Value}
variable {nm q : Str} {bs bm bb : List Value} {hd : Bool} {sn : List Str} {sb : List Value} {ab : Bool} {col : Option Bool} {dl : Option Addr} {k0 k1 k2 k3 k5 : Option Value} {b0 nid iid : String}
theorem type_call_init (F : ExcBaseFacts b0 nid iid bb) (T : OwnTail H bb bm) {Q : Fin -> Shared -> Prop} (c : H.get? C = some (excClassObj nm q C N bs bm hd sn sb ab col dl k0 k1 k2 k3 k5 nid)) (n : H.Ns N mN) (i : mN "__init__" = some (.ref fI)) (a : H.get? fI = some oI) (ac : oI.cls = .type "function")
    (k : ∀ h' e, H.objs.size <= e -> Heap.MadeExcOf H h' e (.ref C) vs -> wpAny (model P w) A (call (.ref fI) (.ref e :: vs)) (fun r s => r = .none /\ Q (.done (.ret (.ref e))) s) E ⟨h', g, dr, t, os⟩) (few : vs.length <= sizeLine) :
    wpAny (model P w) A (Builtin.«type.__call__» ⟨.ref C :: vs, []⟩) Q E ⟨H, g, dr, t, os⟩ := by
  have me : (Value.ref C :: bm).contains (.ref C) = true := List.contains_iff_mem.mpr (.head _)
  have c' := made_old (C := C) (vs := vs) c
  have T' := T.keeps (h' := made H C vs) fun _ _ z => made_old z
  repeat
    first
      | with_reducible refine wpAny_loadPart_at c ?_
      | with_reducible refine wpAny_madeBy_exc c ?_
      | wp_step
  apply codeAny_call_builtin_code (Code.quiet_builtin _ F.quiet)
  apply wpAny_check_new_subT F T c
  refine codeAny_exc_new_subT F T c ?_ few
  show wpAny (model P w) A _ _ _ ⟨made H C vs, g, dr, t, os⟩
  unfold isInstance
  repeat
    first
      | with_reducible refine wpAny_loadPart_at made_new ?_
      | (with_reducible refine wpAny_isSubtype_exc c' ?_; rw [me])
      | wp_step
  show wpAny (model P w) A (typeLookup (.ref C) "__init__") _ _ _
  apply wpAny_typeLookup_tail c' (made_ns n) T' F.mroIs F.init.lookup
  rw [i]
  apply wpAny_holding
  apply wpAny_bind
  unfold bindSpecial
  refine wpAny_bind (wpAny_typeOf (T := "function") ⟨oI, made_old a, ac⟩ ?_)
  rw [if_pos (by decide)]
  refine wpAny_pure (wpAny_bind (wpAny_mono (k _ _ (Nat.le_succ _) made_of) (fun r s z => ?_) fun _ _ z => z))
  obtain ⟨rfl, z⟩ := z
  wp_walk
  exact z
theorem call_init (F : ExcBaseFacts b0 nid iid bb) (T : OwnTail H bb bm) {Q : Value -> Shared -> Prop} (c : H.get? C = some (excClassObj nm q C N bs bm hd sn sb ab col dl k0 k1 k2 k3 k5 nid)) (n : H.Ns N mN) (i : mN "__init__" = some (.ref fI)) (a : H.get? fI = some oI) (ac : oI.cls = .type "function")
    (k : ∀ h' e, H.objs.size <= e -> Heap.MadeExcOf H h' e (.ref C) vs -> wpAny (model P w) (A.under (.builtin "type.__call__" ⟨.ref C :: vs, []⟩)) (call (.ref fI) (.ref e :: vs)) (fun r s => r = .none /\ Q (.ref e) s) E ⟨h', g, dr, t, os⟩) (few : vs.length <= sizeLine) :
    wpAny (model P w) A (call (.ref C) vs) Q E ⟨H, g, dr, t, os⟩ := by
  have ty : (⟨H, g, dr, t, os⟩ : Shared).TypeIs (.ref C) "type" := ⟨_, c, rfl⟩
  have l1 := tc_lookup
  have l2 := tc_bind (.ref C)
  apply wpAny_call
  apply codeAny_of_tree
  show wpAny (model P w) _ (callAny (.ref C) ⟨vs, []⟩) _ _ _
  repeat
    any_goals first
      | assumption
      | with_reducible refine wpAny_loadPart_at c ?_
      | wp_step
  refine ⟨rfl, codeAny_call_builtin_at (Code.quiet_builtin _ (by decide +kernel)) entry_typeCall (wpAny_check_type_call_sub c ?_)⟩
  exact type_call_init (few := few) F T c n i a ac fun h' e l m => k h' e l m
end
def Trc (h : Heap) (e : Addr) (c : Value) (dd : Option Addr) (a0 : Value) (T : Option Addr) : Prop :=
  ∃ oe vs, h.get? e = some oe /\ oe.cls = c /\ oe.dict = dd /\ oe.data = .fields vs /\ vs[0]? = some a0 /\ (T = none -> vs[1]? = some .none) /\
    ∀ t, T = some t -> vs[1]? = some (.ref t) /\ t ≠ e /\ ∃ oT ts, h.get? t = some oT /\ oT.data = .fields ts /\ ts[3]? = some .none
def Kpt (S : List Addr) (e : Addr) (T : Option Addr) (h h' : Heap) : Prop :=
  ∀ b o, b ≠ e -> T ≠ some b -> h.get? b = some o -> (b ∉ S -> h'.get? b = some o) /\ ∃ sl, h'.get? b = some { o with slots := sl }
theorem dict_mapFields (f : Array Value -> Array Value) (o : Obj) : (Obj.mapFields f o).dict = o.dict := by
  obtain ⟨c, d, dt, sl⟩ := o
  cases dt <;> rfl
section
variable {M : Model} {A : Around} {E : Value -> Shared -> Prop} {s : Shared}
end
def CX1 (P : Program) (w : World) : CXT := fun outer H s E e s' => ∃ ea C dd a0 T H', e = .ref ea /\ s'.os = s.os /\ AllBare s'.gens /\ Un (frs outer) [] H H' s.heap s'.heap /\ HOk P w H' s'.heap /\
  Trc s'.heap ea C dd a0 (some T) /\ s.heap.objs.size <= ea /\ s.heap.objs.size <= T /\ H' ea = none /\ H' T = none /\ E C dd H'
section
variable {P : Program} {w : World} {K : PySem.W.Frag} {mg : Str -> Option Value} {base : Heap} {N : List Str} {qual : Str} {scope : Scope} {f : Addr} {cd : Value} {A : Around} {outer : List Env} {s : Shared} {H : Hp} {E : XK}
end
section
variable {prog : Program} {w : World} {A : Around} {E : Value -> Shared -> Prop} {s : Shared} {K : PySem.W.Frag} {x dx C f : Addr} {mA : Str -> Option Value} {name : Str} {v : Value}
abbrev vB : List Value := [.type "ValueError", .type "Exception", .type "BaseException", .type "object"]
theorem refuse_tail {h : Heap} {tl : List Value} (self : Value) (T : OwnTail h vB tl) : refuseLoop self "__setattr__" tl = pure () := by
  induction T with
  | base => exact PySem.F.store_ValueError.passes self
  | own _ _ _ _ ih => rw [refuseLoop_ref]; exact ih
theorem osa_exc {R : Result -> Shared -> Prop} {ox : Obj} {od : Option Obj} {tk : Tok} {cd : ClassData} {bm : List Value} (X : K.In s.heap) (I : PySem.W.InstAt s.heap x ox C od) (hc : PySem.W.clsIn K C = some cd) (hmr : cd.mro = .ref C :: bm) (T : OwnTail s.heap vB bm) (ht : PySem.W.takerIn K C name = some none)
    (h : ∀ b, wpAny (model prog w) A.in1 (Builtin.ObjectAttr.storeInOwnDict (.ref x) (.ref C) (.str name tk) name v b)
      (fun fin s' => match fin with | .done f => R (.ok f) s' | .again c' => c'.quiet = true /\ codeAny (model prog w) A c' R s') (fun e s' => R (.error e) s') s) :
    codeAny (model prog w) A (.call (.builtin "object.__setattr__") ⟨[.ref x, .str name tk, v], []⟩) R s := by
  have SF := PySem.F.store_object
  have cn : cd.mro.contains (.type "object") = true := by rw [hmr, List.contains_cons, T.hasType (b := true) (by decide), Bool.or_true]
  have sub : PySem.W.Looks (model prog w) s.heap (isInstance (.ref x) (.type "object")) true := I.type.andThen (PySem.W.looks_mroIn X (by unfold PySem.W.mroIn; rw [hc, Option.bind_some, if_neg (by rw [hmr]; simp), cn]))
  refine codeAny_call_builtin SF.slot.plain SF.entry (@PySem.W.check_slot (model prog w) _ _ s "object.__setattr__" "object" "__setattr__" (.ref x) [.str name tk, v] [] _ SF.kind SF.split sub (SF.args (.ref x) (.str name tk) v) ?_)
  obtain ⟨attr, ha, hr⟩ := Option.bind_eq_some_iff.mp ht
  have hm : PySem.W.Looks (model prog w) s.heap (mroOf (.ref C)) cd.mro := (PySem.W.looks_clsIn X hc).andThen .now
  have L3 : PySem.W.Looks (model prog w) s.heap (Builtin.ObjectAttr.storeTaker? attr) none := by
    cases attr with
    | none => exact .now
    | some a =>
      obtain ⟨b, hb, hb2⟩ := Option.map_eq_some_iff.mp hr
      refine (PySem.W.looks_takesIn X hb).andThen ?_
      cases b
      · exact .now
      · cases hb2
  rw [PySem.W.osa_eq, refuse_eq]
  refine wpAny_bind (wpAny_bind (I.type.here (wpAny_bind (hm.here ?_))))
  rw [hmr, refuseLoop_ref, refuse_tail _ T]
  refine wpAny_pure (wpAny_bind (I.type.here (wpAny_bind ((PySem.W.looks_findIn X ha).here (wpAny_bind (L3.here ?_))))))
  exact h _
theorem set_exc {cd0 : ClassData} {bm : List Value} (hc0 : PySem.W.clsIn K C = some cd0) (hmr : cd0.mro = .ref C :: bm) {ox : Obj} {fs : Array Value} {Q : Unit -> Shared -> Prop} (X : K.In s.heap) (ho : s.heap.get? x = some ox) (hc : ox.cls = .ref C) (hd : ox.dict = none) (hf : ox.data = .fields fs)
    (hs : PySem.W.findIn K (.ref C) "__setattr__" = some (some (.builtin "object.__setattr__"))) (T : OwnTail s.heap vB bm) (ht : PySem.W.takerIn K C name = some none) (hh : PySem.W.hasDictIn K C = true)
    (h : ∀ h', h'.get? x = some { ox with dict := some s.heap.objs.size } -> h'.Ns1 s.heap.objs.size (fun y => if y = name then some v else none) -> (∀ b o, b ≠ x -> s.heap.get? b = some o -> h'.get? b = some o) -> Q () { s with heap := h', toks := s.toks + 2 }) :
    wpAny (model prog w) A (setAttr (.ref x) name v) Q E s := by
  have J : PySem.W.InstAt s.heap x ox C none := ⟨ho, hc, by unfold PySem.W.notCls; rw [hf], by rw [hd]; trivial⟩
  refine PySem.W.set_plain X J hs (osa_exc (s := { s with toks := s.toks + 1 }) X J hc0 hmr T ht fun b => ?_)
  obtain ⟨cd, hcd, hd'⟩ := PySem.W.any_some hh
  obtain ⟨oc, odi, oda, osl⟩ := ox
  dsimp only at hc hd hf
  subst hc hd hf
  refine wpAny_bind (wpAny_pure (wpAny_bind (wpAny_bind (wpAny_loadPart ho (wpAny_bind (PySem.W.Looks.here (s := { s with toks := s.toks + 1 }) (PySem.W.looks_clsIn X hcd) ?_))))))
  rw [hd']
  have hx1 : (s.heap.push { cls := .type "dict", data := .dict #[] }).get? x = some ⟨.ref C, none, .fields fs, osl⟩ := Heap.get?_push_of_some _ ho
  have hxs : x ≠ s.heap.objs.size := Nat.ne_of_lt (Heap.lt_size ho)
  rw [if_neg (by decide)]
  dsimp only
  rw [if_neg (by simp [typeHasDict])]
  refine wpAny_bind (wpAny_alloc' ?_)
  refine wpAny_bind (wpAny_update' hx1 ?_)
  refine wpAny_pure ?_
  have hgd : ((s.heap.push { cls := .type "dict", data := .dict #[] }).update x fun o => { cls := o.cls, dict := some s.heap.objs.size, data := o.data, slots := o.slots }).get? s.heap.objs.size
      = some { cls := .type "dict", data := .dict #[] } := (Heap.get?_update_ne _ _ _ _ hxs.symm).trans (Heap.get?_push_at rfl rfl)
  have hnd : ((s.heap.push { cls := .type "dict", data := .dict #[] }).update x fun o => { cls := o.cls, dict := some s.heap.objs.size, data := o.data, slots := o.slots }).Ns s.heap.objs.size (fun _ => none) :=
    ⟨_, #[], _, hgd, rfl, fun e he => absurd he (by simp), fun _ => rfl⟩
  show wpAny _ _ (Builtin.ObjectAttr.storeInDict s.heap.objs.size (.str name s.toks) name v) _ _ _
  unfold Builtin.ObjectAttr.storeInDict Builtin.ObjectAttr.newKeyGuard
  refine wpAny_bind (wpAny_pure (wpAny_bind (wpAny_nsSet1 (Heap.Ns1.of_empty hnd) fun h' hn' hs => ?_)))
  obtain ⟨oD, esD, epD, hoD, hdD, hcD⟩ := hn'.count (Within.cons name v Within.nil)
  refine wpAny_bind (wpAny_lookBehind hoD (by rw [hdD]; exact pastItsLine_dict (Nat.le_trans hcD (by rw [List.length_cons, List.length_nil, sizeLine_eq]; omega))) ?_)
  refine wpAny_pure (h h' ?_ hn' fun b o hbx hb => ?_)
  · refine (hs.2 x hxs).trans (Heap.get?_update_self _ hx1 ?_)
    rfl
  · exact (hs.2 b (Nat.ne_of_lt (Heap.lt_size hb))).trans ((Heap.get?_update_ne _ _ _ _ hbx).trans (Heap.get?_push_of_some _ hb))
theorem get_exc_entry {ox : Obj} {fs : Array Value} {tk : Tok} {Q : Fin -> Shared -> Prop} {h : Heap} {g : Array GenState} {d : Drawn} {t : Nat} {os : OsState} (X : K.In h) (ho : h.get? x = some ox) (hc : ox.cls = .ref C) (hd : ox.dict = some dx) (hf : ox.data = .fields fs) (hn : h.Ns1 dx mA)
    (ha : PySem.W.findIn K (.ref C) name = some none) (hh : PySem.W.hasDictIn K C = true) (hv : mA name = some v) (hv' : PySem.W.handedIn v = true) (hq : Q (.done (.ret v)) ⟨h, g, d, t, os⟩) :
    wpAny (model prog w) A (Builtin.«object.__getattribute__» ⟨[.ref x, .str name tk], []⟩) Q E ⟨h, g, d, t, os⟩ := by
  obtain ⟨cd, hcd, hd'⟩ := PySem.W.any_some hh
  have L1 := PySem.W.looks_findIn (M := model prog w) X ha
  have L2 := PySem.W.looks_clsIn (M := model prog w) X hcd
  have hv2 : handedOut v = pure v := PySem.W.handedOut_of hv'
  obtain ⟨oc, odi, oda, osl⟩ := ox
  dsimp only at hc hd hf
  subst hc hd hf
  unfold Builtin.«object.__getattribute__»
  repeat (any_goals (first | assumption | with_reducible refine wpAny_loadPart_at ho ?_ | with_reducible refine L1.at ?_ | with_reducible refine L2.at ?_ | (with_reducible refine wpAny_nsGet hn.ns ?_; rw [hv]) | rw [hv2] | wp_step))
theorem get_exc_call {ox : Obj} {fs : Array Value} {tk : Tok} {R : Result -> Shared -> Prop} {h : Heap} {g : Array GenState} {d : Drawn} {t : Nat} {os : OsState} (X : K.In h) (ho : h.get? x = some ox) (hc : ox.cls = .ref C) (hd : ox.dict = some dx) (hf : ox.data = .fields fs) (hn : h.Ns1 dx mA)
    (hsub : PySem.W.subIn K (.ref C) (.type "BaseException") = some true)
    (ha : PySem.W.findIn K (.ref C) name = some none) (hh : PySem.W.hasDictIn K C = true) (hv : mA name = some v) (hv' : PySem.W.handedIn v = true) (hq : R (.ok (.ret v)) ⟨h, g, d, t, os⟩) :
    codeAny (model prog w) A (.call (.builtin "BaseException.__getattribute__") ⟨[.ref x, .str name tk], []⟩) R ⟨h, g, d, t, os⟩ := by
  refine codeAny_call_builtin PySem.F.attrBase_ValueError.ga.plain PySem.F.entry_bexc_ga ?_
  have J : PySem.W.Looks (model prog w) h (typeOf (.ref x)) (.ref C) := by
    intro A' Q' E' s' k q
    unfold typeOf
    refine wpAny_bind (wpAny_loadPart (k _ _ ho) ?_)
    rw [hc]
    exact wpAny_pure q
  refine @PySem.W.check_slot (model prog w) _ _ ⟨h, g, d, t, os⟩ "BaseException.__getattribute__" "BaseException" "__getattribute__" (.ref x) [.str name tk] [] _ (by decide +kernel) (by decide +kernel) (J.andThen (PySem.W.looks_subIn X hsub)) (PySem.F.args_bexc_ga (.ref x) (.str name tk)) ?_
  exact get_exc_entry X ho hc hd hf hn ha hh hv hv' hq
theorem get_exc {ox : Obj} {fs : Array Value} {expr : Bool} {Q : Value -> Shared -> Prop} (X : K.In s.heap) (ho : s.heap.get? x = some ox) (hc : ox.cls = .ref C) (hd : ox.dict = some dx) (hf : ox.data = .fields fs) (hn : s.heap.Ns1 dx mA)
    (hsub : PySem.W.subIn K (.ref C) (.type "BaseException") = some true) (hga : PySem.W.findIn K (.ref C) "__getattribute__" = some (some (.builtin "BaseException.__getattribute__"))) (hgt : PySem.W.findIn K (.ref C) "__getattr__" = some none)
    (ha : PySem.W.findIn K (.ref C) name = some none) (hh : PySem.W.hasDictIn K C = true) (hv : mA name = some v) (hv' : PySem.W.handedIn v = true) (hq : Q v { s with toks := s.toks + 1 }) :
    wpAny (model prog w) A (getAttr (.ref x) name expr) Q E s := by
  obtain ⟨h, g, d, t, os⟩ := s
  have L1 := PySem.W.looks_findIn (M := model prog w) X hga
  have L2 := PySem.W.looks_findIn (M := model prog w) X hgt
  have f3 := PySem.F.attrBase_ValueError.ga.bind (.ref x)
  have hv2 : handedOut v = pure v := PySem.W.handedOut_of hv'
  have hx0 : (expr && onTheHeap (Value.builtin "BaseException.__getattribute__")) = false := by cases expr <;> rfl
  have hx2 : (Value.builtin "BaseException.__getattribute__" == Value.builtin "object.__getattribute__") = false := by decide +kernel
  have hx1 : (onTheHeap (Value.ref C) && Value.builtin "BaseException.__getattribute__" == Value.builtin "object.__getattribute__") = false := by rw [hx2]; rfl
  unfold getAttr getAttrBy
  repeat (any_goals (first | assumption | (with_reducible refine wpAny_loadPart_at ho ?_; rw [hc]) | with_reducible refine L1.at ?_ | with_reducible refine L2.at ?_ | rw [hv2] | wp_step))
  refine get_exc_call X ho hc hd hf hn hsub ha hh hv hv' ?_
  repeat (any_goals (first | assumption | rw [hv2] | wp_step))
end
structure XC (K : PySem.W.Frag) (C HE fI : Addr) (fd : Str) : Prop where
  cls : ∃ dd cd k0 k1 k2 k3 k5 bm, K.lookup C = some ⟨.type "type", dd, .cls cd, #[k0, k1, k2, k3, some (.builtin "ValueError.__new__"), k5]⟩ /\ cd.mro = .ref C :: bm /\ cd.hasDel = false /\
    PySem.W.tailIn K vB bm = true /\ PySem.W.nsOkIn K cd.ns = true /\ PySem.W.nsIn K cd.ns "__init__" = some (some (.ref fI))
  fn : ∃ o, K.lookup fI = some o /\ o.cls = .type "function"
  kp : PySem.W.keepIn K (.ref C) = true
  sa : PySem.W.findIn K (.ref C) "__setattr__" = some (some (.builtin "object.__setattr__"))
  tk : PySem.W.takerIn K C fd = some none
  hd : PySem.W.hasDictIn K C = true
  sub : PySem.W.subIn K (.ref C) (.type "BaseException") = some true
  subH : PySem.W.subIn K (.ref C) (.ref HE) = some true
  ga : PySem.W.findIn K (.ref C) "__getattribute__" = some (some (.builtin "BaseException.__getattribute__"))
  gt : PySem.W.findIn K (.ref C) "__getattr__" = some none
  na : PySem.W.findIn K (.ref C) fd = some none
  rd : PySem.W.readsIn K HE (.type "type") = true
  fc : PySem.W.findCls K (.ref HE) (.type "type") "__init__" = some (.val (.builtin "ValueError.__init__"))
  sp : PySem.W.specialIn K (.ref HE) "__getattribute__" = some (some (.builtin "type.__getattribute__"))
section
variable {K : PySem.W.Frag} {C HE fI : Addr} {fd : Str} {h : Heap}
theorem ns_some {N : Addr} {mg : Str -> Option Value} {n : Str} {v : Value} (X : K.In h) (G : h.Ns N mg) (e : PySem.W.nsIn K N n = some (some v)) : mg n = some v := by
  obtain ⟨o, es, ep, ho, hd, _, hf⟩ := G
  unfold PySem.W.nsIn at e
  split at e
  · rename_i q
    have := X _ _ q
    rw [ho] at this
    cases this
    cases hd
    split at e
    · rename_i en he
      cases e
      rw [<- hf]
      unfold nsFind findBy
      rw [<- Array.find?_toList, he]
      rfl
    · split at e <;> cases e
  · cases e
theorem XC.at (x : XC K C HE fI fd) (X : K.In h) : ∃ nm q N bs bm hdct sn sub ab col dd k0 k1 k2 k3 k5 mN, h.get? C = some (excClassObj nm q C N bs bm hdct sn sub ab col dd k0 k1 k2 k3 k5 "ValueError.__new__") /\ h.Ns N mN /\ mN "__init__" = some (.ref fI) /\ OwnTail h vB bm := by
  obtain ⟨dd, cd, k0, k1, k2, k3, k5, bm, e, m, hdel, ht, hok, hi⟩ := x.cls
  obtain ⟨nm, bs, mro, ns, qn, hd, sn, sub, ab, col, del⟩ := cd
  dsimp only at m hdel hok hi
  subst m hdel
  have G : h.Ns ns (h.nsMap ns) := .of_isNs (PySem.W.isNs_of_in X hok)
  refine ⟨nm, qn, ns, bs, bm, hd, sn, sub, ab, col, dd, k0, k1, k2, k3, k5, _, X _ _ e, G, ?_, PySem.W.tail_of_in X ht⟩
  exact ns_some X G hi
end
section
variable {prog : Program} {w : World} {A : Around} {E : Value -> Shared -> Prop} {h : Heap} {g : Array GenState} {d : Drawn} {t : Nat} {os : OsState}
variable {nm q : Str} {C N : Addr} {bs bm bmB : List Value} {hdct : Bool} {sn : List Str} {sub : List Value} {ab : Bool} {col : Option Bool} {dd : Option Addr} {k0 k1 k2 k3 k5 : Option Value} {B newId initId : String}
theorem base_init (F : ExcBaseFacts B newId initId bmB) (T : OwnTail h bmB bm) {e ta : Addr} {rest : List Value} {Q : Value -> Shared -> Prop}
    (hC : h.get? C = some (excClassObj nm q C N bs bm hdct sn sub ab col dd k0 k1 k2 k3 k5 newId)) (he : h.get? e = some { cls := .ref C, data := .fields #[.ref ta, .none, .none, .none, .bool false, .none] }) (hrest : rest.length <= sizeLine)
    (hq : ∀ h', h'.get? e = some { cls := .ref C, data := .fields #[.ref h.objs.size, .none, .none, .none, .bool false, .none] } -> (∀ b o, b ≠ e -> h.get? b = some o -> h'.get? b = some o) -> Q .none ⟨h', g, d, t, os⟩) :
    wpAny (model prog w) A (call (.builtin initId) (.ref e :: rest)) Q E ⟨h, g, d, t, os⟩ := by
  refine wpAny_call (codeAny_call_builtin F.init.plain F.initEntry (wpAny_check_init_subT F T hC he rfl ?_))
  wp_walk
  refine hq _ ?_ fun b o hb q => ?_
  · exact Heap.get?_update_self _ (Heap.get?_push_of_some _ he) rfl
  · rw [Heap.get?_update_other _ _ (Ne.symm hb)]
    exact Heap.get?_push_of_some _ q
end
def ExO (e C t : Addr) (dd : Option Addr) : HO := .ext fun h => h.get? e = some { cls := .ref C, dict := dd, data := .fields #[.ref t, .none, .none, .none, .bool false, .none] }
theorem exO_ok {P : Program} {w : World} {H : Hp} {h : Heap} {e C t : Addr} {dd : Option Addr} (q : h.get? e = some { cls := .ref C, dict := dd, data := .fields #[.ref t, .none, .none, .none, .bool false, .none] }) : ObjOk P w H h e (ExO e C t dd) :=
  ⟨q, ⟨_, q⟩, fun _ _ p k => k _ p⟩
def xiSp (C : Addr) (fd : Str) : Sp := fun vs H Q _ => ∃ e v t, vs = [.ref e, v] /\ H e = some (ExO e C t none) /\ ∀ t' dx, H dx = none -> dx ≠ e -> Q .non (upd (upd H e (ExO e C t' (some dx))) dx (.xd [(fd, v)]))
section
variable {X : Cx} {C HE fI : Addr} {fd x : Str} {pos p apos pa pb pos' : Pos} {a b : Expr} {ta tb : TE}
def tBase (C : Addr) (t : TA) : TE := fun σ H Q => t σ H fun vs H2 => ∃ e v t, vs = [.ref e, v] /\ H2 e = some (ExO e C t none) /\ ∀ t', Q .non (upd H2 e (ExO e C t' none))
theorem pe_base {pl : Sem Bool} {t : TA} (xc : XC X.K C HE fI fd) (hg : Gl X x) (hm : X.mg x = some (.ref HE)) (ha : PA X [a, b] t)
    (hdb : (x == ("__debug__" : Str)) = false := by decide)
    (hst : starEach [a, b] X.env = (false, eval a X.env) :: starEach [b] X.env := by rfl) (hpl : (backTo pos (starEach [b] X.env)).any (·.1) = false := by rfl)
    (ht : eval (.Call (.Attribute (.Name x p) "__init__" apos) [a, b] [] pos) X.env = (do
      let ov <- eval (.Name x p) X.env
      standAt apos.atName
      let (f, first) <- holding [ov] (getMethod ov "__init__" pl)
      callWith pos f first (backTo pos (starEach [a, b] X.env)) (backToKw pos (keywordEach [] X.env))) := by rfl) :
    PE X (.Call (.Attribute (.Name x p) "__init__" apos) [a, b] [] pos) (tBase C t) := by
  intro pins s σ H Q I h
  refine PySem.W.methodCall_KW (pl := pl) (ld_glob I hg hm ?_ hdb) ht
  refine PySem.W.method_cls I.kIn xc.sp (PySem.W.cls_value I.kIn xc.rd xc.fc rfl ?_)
  have I0 := I.tok (s.toks + 1)
  refine callWith_method1 (first := []) (thn (ha pos pins _ σ H _ I0 h) fun us s1 ⟨vs, H1, I1, r1, q1⟩ => ?_) hst hpl
  obtain ⟨e, v, t0, rfl, he, q⟩ := q1
  cases r1 with
  | @cons _ u1 _ _ ru r2 =>
  cases r2 with
  | @cons _ u2 _ _ rv r3 =>
  cases r3
  obtain rfl : u1 = Value.ref e := ru
  obtain ⟨nm, qq, N, bs, bm, hdct, sn, sub, ab, col, dd, k0, k1, k2, k3, k5, mN, hC, hN, hi, T⟩ := xc.at I1.kIn
  have he' := (I1.hok e _ he).1
  obtain ⟨hh, g, d, tk, os⟩ := s1
  refine base_init PySem.F.excBase_ValueError T hC he' (by rw [List.length_cons, List.length_nil, sizeLine_eq]; omega) fun h' k1' k2' => ?_
  refine ⟨.non, _, I1.write (x := e) (e := e) (o := ExO e C hh.objs.size none) (h' := h') (t' := tk) (by rw [he]; exact True.intro) (.inl rfl) (fun b u hb z => k2' b u hb z) ⟨_, k1'⟩ (exO_ok k1'), rfl, q _⟩
def sFirst (C : Addr) (fd : Str) (ta tv : TE) : TS := fun D σ H => tv σ H fun y H1 => ta σ H1 fun x H2 => ∃ e t, x = .ref e /\ H2 e = some (ExO e C t none) /\ ∀ dx, H2 dx = none -> dx ≠ e -> D.nx σ (upd (upd H2 e (ExO e C t (some dx))) dx (.xd [(fd, y)]))
theorem XC.clsOf {K : PySem.W.Frag} {C HE fI : Addr} {fd : Str} {h : Heap} (x : XC K C HE fI fd) (X : K.In h) : ∃ cd bm, PySem.W.clsIn K C = some cd /\ cd.mro = .ref C :: bm /\ OwnTail h vB bm := by
  obtain ⟨dd, cd, k0, k1, k2, k3, k5, bm, e, m, hdel, ht, hok, hi⟩ := x.cls
  exact ⟨cd, bm, by unfold PySem.W.clsIn; rw [e], m, PySem.W.tail_of_in X ht⟩
theorem ps_first {o value : Expr} {tv : TE} (xc : XC X.K C HE fI fd) (ha : PE X o ta) (hv : PE X value tv) (hs : swapsWith value (some (.Attribute o fd pos')) pos.line X.env = pure false) : PS X (.Assign [.Attribute o fd pos'] value pos) (sFirst C fd ta tv) := by
  intro pins s σ H D I h
  refine plainObj_wpAny_Assign_Attribute (thn (hv pins s σ H _ I h) fun u s1 ⟨y, H1, I1, ry, q⟩ => thn (ha pins s1 σ H1 _ I1 q) fun ov s2 ⟨x, H2, I2, rx, e, t, ex, ee, q2⟩ => ?_) hs
  subst ex
  obtain rfl : ov = Value.ref e := rx
  have he := (I2.hok e _ ee).1
  have hn : H2 s2.heap.objs.size = none := I2.hok.fresh (Nat.le_refl _)
  have hne : s2.heap.objs.size ≠ e := fun z => by rw [z, ee] at hn; cases hn
  obtain ⟨cd0, bm0, hc0, hm0, T0⟩ := xc.clsOf I2.kIn
  refine set_exc hc0 hm0 I2.kIn he rfl rfl rfl xc.sa T0 xc.tk xc.hd fun h' h1 h2 h3 => ⟨σ, _, ?_, q2 s2.heap.objs.size hn hne⟩
  have hm : Mut (H2 e) := by rw [ee]; exact True.intro
  have U : Un X.fs [] H2 (upd H2 e (ExO e C t (some s2.heap.objs.size))) s2.heap h' := Un.write hm (.inl rfl) (fun b u hb q => h3 b u hb q) ⟨_, h1⟩
  have O : HOk X.prog X.w (upd H2 e (ExO e C t (some s2.heap.objs.size))) h' := I2.hok.write hm (.inl rfl) (fun b u hb q => h3 b u hb q) ⟨_, h1⟩ (exO_ok h1)
  have hn' : upd H2 e (ExO e C t (some s2.heap.objs.size)) s2.heap.objs.size = none := by rw [upd_ne hne]; exact hn
  refine I2.un (h' := h') (t' := s2.toks + 2) ⟨U.keep, U.slot, fun b o q n hx => ?_, U.there, fun b xs q => ?_, fun b o xs q => ?_, fun b ps q => ?_⟩ fun a o q => ?_
  · rw [upd_ne (Nat.ne_of_lt (Heap.lt_size q))]; exact U.free b o q n hx
  · rw [upd_ne (ne_of_none q hn)]; exact U.tups b xs q
  · rw [upd_ne (ne_of_none q hn)]; exact U.frzs b o xs q
  · rw [upd_ne (ne_of_none q hn)]; exact U.tbls b ps q
  · by_cases ha : a = s2.heap.objs.size
    · subst ha
      rw [upd_same] at q
      cases q
      refine ⟨_, h2, fun f => ?_⟩
      by_cases hf : f = fd
      · subst hf
        rw [if_pos rfl]
        simp only [List.lookup, beq_self_eq_true]
        exact ry
      · rw [if_neg hf]
        have : (f == fd) = false := by simpa using hf
        simp only [List.lookup, this]
        exact True.intro
    · rw [upd_ne ha] at q
      exact (O a o q).stay (fun b u _ z => z) (fun b z => by rw [upd_ne (ne_of_none z hn')]; exact z) fun b xs z => by rw [upd_ne (ne_of_none z hn')]; exact z
end
def del (H : Hp) (e : Addr) : Hp := fun b => if b = e then none else H b
theorem del_ne {H : Hp} {e b : Addr} (h : b ≠ e) : del H e b = H b := by unfold del; rw [if_neg h]
theorem del_same {H : Hp} {e : Addr} : del H e e = none := by unfold del; rw [if_pos rfl]
theorem inv_drop {X : Cx} {pins : List (Addr × Obj)} {σ : St} {H : Hp} {s : Shared} {e : Addr} {φ : Heap -> Prop} (I : Inv X pins σ H s) (he : H e = some (.ext φ)) : Inv X pins σ (del H e) s := by
  have no : ∀ {b : Addr}, H b = none -> del H e b = none := fun {b} n => by
    by_cases q : b = e
    · rw [q]; exact del_same
    · rw [del_ne q]; exact n
  have ke : ∀ {b : Addr} {u : HO}, H b = some u -> (∀ φ, u ≠ .ext φ) -> del H e b = some u := fun {b u} n d => by
    have : b ≠ e := fun z => by rw [z, he] at n; cases n; exact d _ rfl
    rw [del_ne this]; exact n
  have u := I.base
  refine ⟨I.ok, I.os, I.bare, ⟨u.keep, u.slot, fun b o q n hx => no (u.free b o q n hx), u.there, fun b xs q => ke (u.tups b xs q) (fun _ z => nomatch z), fun b o xs q => ke (u.frzs b o xs q) (fun _ z => nomatch z), fun b ps q => ?_⟩, I.loc, I.cell, no I.free, fun x c q => no (I.freeC x c q), fun p hp => ?_, fun a o q => ?_, I.len⟩
  · obtain ⟨m, z⟩ := u.tbls b ps q
    exact ⟨m, ke z fun _ z => nomatch z⟩
  · obtain ⟨a1, a2, a3⟩ := I.pin p hp
    exact ⟨a1, no a2, a3⟩
  · have hne : a ≠ e := fun z => by rw [z, del_same] at q; cases q
    rw [del_ne hne] at q
    exact (I.hok a o q).stay (fun b u _ z => z) (fun b z => ke z fun _ z => nomatch z) fun b xs z => ke z fun _ z => nomatch z
section
variable {M : Model} {A : Around} {E : Value -> Shared -> Prop} {s : Shared} {env : Env}
variable {nm q : Str} {C N : Addr} {bs bm : List Value} {hdct : Bool} {sn : List Str} {sub : List Value} {ab : Bool} {col : Option Bool} {dd : Option Addr} {k0 k1 k2 k3 k5 : Option Value} {newId : String}
theorem raise_made {x : Sem Value} {Q : Flow -> Shared -> Prop} (hbase : bm.contains (.type "BaseException") = true) (hh : A.handled = none)
    (h : wpAny M A x (fun v s₁ => ∃ e t ed, v = .ref e /\ s₁.heap.get? C = some (excClassObj nm q C N bs bm hdct sn sub ab col dd k0 k1 k2 k3 k5 newId) /\
      s₁.heap.get? e = some { cls := .ref C, dict := ed, data := .fields #[.ref t, .none, .none, .none, .bool false, .none] } /\ E (.ref e) s₁) E s) :
    wpAny M A (raiseStmt env (some x) none) Q E s := by
  have hcB : (Value.ref C :: bm).contains (.type "BaseException") = true := by rw [List.contains_cons, hbase, Bool.or_true]
  unfold raiseStmt
  refine wpAny_bind (wpAny_mono h (fun v s₁ h₁ => ?_) fun _ _ x => x)
  obtain ⟨e, t, ed, rfl, hC, he, hE⟩ := h₁
  obtain ⟨hp, g, d, tk, os⟩ := s₁
  repeat (first | with_reducible refine wpAny_loadPart_at he ?_ | with_reducible refine wpAny_loadPart_at hC ?_ | (with_reducible refine wpAny_isSubtype_exc hC ?_; rw [hcB]) | wp_step)
  exact wpAny_raiseNew_none hh hE
end
section
variable {X : Cx} {C HE fI : Addr} {fd x : Str} {pos p cpos : Pos} {a : Expr} {t : TA} {k : Nat} {f0 : FuncData} {ps : List Str}
theorem run_exc {pins : List (Addr × Obj)} {σ : St} {H : Hp} {s : Shared} {u : Value} {v : V} {Q : Value -> Shared -> Prop} (xc : XC X.K C HE fI fd) (F : FnOk X.prog X.w X.K X.mg X.base CX0 k fI f0 ps (xiSp C fd)) (hr : Room (k + 1) X.A) (hb : Binds X.K f0 ps [])
    (I : Inv X pins σ H s) (r : RelV v u)
    (h : ∀ e t dx s', Inv X pins σ (upd (upd (upd H e (ExO e C t none)) e (ExO e C t (some dx))) dx (.xd [(fd, v)])) s' -> H e = none -> H dx = none -> dx ≠ e -> s.heap.objs.size <= e -> Q (.ref e) s') :
    wpAny (model X.prog X.w) X.A (call (.ref C) [u]) Q X.xe s := by
  obtain ⟨nm, qq, N, bs, bm, hdct, sn, sub, ab, col, dd, k0, k1, k2, k3, k5, mN, hC, hN, hi, T⟩ := xc.at I.kIn
  obtain ⟨oI, hfI, hfc⟩ := xc.fn
  obtain ⟨hh, g, d, tk, os⟩ := s
  refine call_init PySem.F.excBase_ValueError T hC hN hi (I.kIn _ _ hfI) hfc (fun h' e hl hm => ?_) (by rw [List.length_cons, List.length_nil, sizeLine_eq]; omega)
  obtain ⟨t, he, htn, ht⟩ := hm.there
  have I2 : Inv X pins σ (upd H e (ExO e C t none)) ⟨h', g, d, tk, os⟩ := I.laid (a := e) (o := ExO e C t none) (h' := h') (t' := tk) (fun b o q => hm.keeps b o q) hl (exO_ok he)
  have hne : H e = none := I.hok.fresh hl
  have r2 : Vals [V.ref e, v] [Value.ref e, u] := .cons rfl (.cons r .nil)
  have hsp : xiSp C fd [V.ref e, v] (upd H e (ExO e C t none)) (fun v' H2 => v' = .non /\ ∃ t' dx, H dx = none /\ dx ≠ e /\ H2 = upd (upd (upd H e (ExO e C t none)) e (ExO e C t' (some dx))) dx (.xd [(fd, v)])) E0 :=
    ⟨e, v, t, rfl, upd_same, fun t' dx hdx hde => ⟨rfl, t', dx, by rw [upd_ne hde] at hdx; exact hdx, hde, rfl⟩⟩
  have hl2 : ([Value.ref e, u] ++ ([] : List Value)).length = ps.length := by
    have := F.len _ _ _ _ hsp
    simpa using this
  refine wpAny_call (codeAny_mono (F.run _ X.stack _ _ ⟨[Value.ref e, u], []⟩ [Value.ref e, u] _ _ E0 (hr.make C [u] []) (I2.env0.make C [u] []) (by have := hb ⟨h', g, d, tk, os⟩ [Value.ref e, u] I2.kIn hl2; simpa using this) r2 hsp) fun r s' hq' => ?_)
  cases r with
  | error e => exact False.elim hq'
  | ok fl =>
    cases fl with
    | ret u' =>
      obtain ⟨v', H', I3, rv, ev, t', dx, e1, e2, e3⟩ := I2.after hq'
      subst ev e3
      refine ⟨rv, h e t' dx s' ?_ hne e1 e2 hl⟩
      have : upd (upd H e (ExO e C t none)) e (ExO e C t' (some dx)) = upd (upd H e (ExO e C t' none)) e (ExO e C t' (some dx)) := by rw [upd_upd, upd_upd]
      rw [<- this]; exact I3
    | next => exact False.elim hq'
    | brk => exact False.elim hq'
    | cont => exact False.elim hq'
end
section
variable {P : Program} {w : World} {K : PySem.W.Frag} {mg : Str -> Option Value} {base : Heap} {N : List Str} {qual : Str} {scope : Scope} {f : Addr} {cd : Value} {A : Around} {outer : List Env} {s0 : Shared} {H0 : Hp} {E : XK}
variable {X : Cx} {C HE fI : Addr} {fd x : Str} {pos p cpos : Pos} {a : Expr} {t : TA} {k : Nat} {f0 : FuncData} {ps : List Str}
end
theorem typ_of {M : Model} {h : Heap} {e C : Addr} {oe : Obj} (he : h.get? e = some oe) (hc : oe.cls = .ref C) : PySem.W.Looks M h (typeOf (.ref e)) (.ref C) := by
  intro A' Q' E' s' k q
  unfold typeOf
  refine wpAny_bind (wpAny_loadPart (k _ _ he) ?_)
  rw [hc]
  exact wpAny_pure q
section
variable {K : PySem.W.Frag} {e C M : Addr}
structure XM (K : PySem.W.Frag) (C M : Addr) : Prop where
  sub : PySem.W.subIn K (.ref C) (.ref M) = some true
  nt : PySem.W.instIn K (.ref M) (.type "tuple") = some false
  cls : (PySem.W.clsIn K M).isSome = true
  exc : PySem.W.subIn K (.ref M) (.type "BaseException") = some true
theorem matches_exc {prog : Program} {w : World} {A : Around} {E : Value -> Shared -> Prop} {s : Shared} {Q : Bool -> Shared -> Prop} {oe : Obj} (xm : XM K C M) (X : K.In s.heap) (he : s.heap.get? e = some oe) (hc : oe.cls = .ref C) (h : Q true s) :
    wpAny (model prog w) A (excMatches (.ref e) (.ref M)) Q E s := by
  obtain ⟨hh, g, d, t, os⟩ := s
  have L0 := PySem.W.looks_instIn (M := model prog w) X xm.nt
  have L1 := typ_of (M := model prog w) he hc
  have L2 := PySem.W.looks_subIn (M := model prog w) X xm.sub
  have L3 := PySem.W.looks_subIn (M := model prog w) X xm.exc
  have L4 : PySem.W.Looks (model prog w) hh (isType (.ref M)) true := by
    have z0 := xm.cls
    unfold PySem.W.clsIn at z0
    split at z0
    · rename_i c' d' cd' sl' ho
      intro A' Q' E' s' k q
      unfold isType loadHead
      exact wpAny_bind (wpAny_loadPart (k _ _ (X _ _ ho)) (wpAny_pure q))
    · cases z0
  unfold excMatches isExcClass
  repeat (first | with_reducible refine L0.at ?_ | with_reducible refine L1.at ?_ | with_reducible refine L2.at ?_ | with_reducible refine L3.at ?_ | with_reducible refine L4.at ?_ | wp_step)
  all_goals first | exact h | skip
end
section
variable {X : Cx} {pins : List (Addr × Obj)} {σ : St} {H : Hp} {s : Shared} {h' : Heap} {e : Addr} {T : Option Addr}
def Own (X : Cx) (pins : List (Addr × Obj)) (H : Hp) (b : Addr) : Prop := X.s₀.heap.objs.size <= b /\ b ≠ X.env.locals /\ (∀ x c, X.env.cells.lookup x = some c -> c ≠ b) /\ (∀ p ∈ X.pn ++ pins, p.1 ≠ b) /\ H b = none /\ b ∉ X.fs
theorem own_new {s1 : Shared} {H1 : Hp} (I : Inv X pins σ H1 s1) {b : Addr} (h : s1.heap.objs.size <= b) (n : H b = none) : Own X pins H b := by
  refine ⟨Nat.le_trans I.sz h, Nat.ne_of_gt (Nat.lt_of_lt_of_le I.lt h), fun x c q => ?_, fun p hp => ?_, n, I.nofs h⟩
  · obtain ⟨v, o, ho, _⟩ := I.cell x c q
    exact Nat.ne_of_lt (Nat.lt_of_lt_of_le (Heap.lt_size ho) h)
  · exact Nat.ne_of_lt (Nat.lt_of_lt_of_le (Heap.lt_size (I.pin p hp).1) h)
theorem inv_kpt (I : Inv X pins σ H s) (K : Kpt (frs X.stack) e T s.heap h') (h1 : Own X pins H e) (h2 : ∀ t, T = some t -> Own X pins H t) : Inv X pins σ H { s with heap := h' } := by
  have sub : ∀ b, b ∈ frs X.stack -> b = X.env.locals ∨ b ∈ X.fs := fun b hb => List.mem_cons.mp (I.stkSub b hb)
  have ne : ∀ b, b ∉ (e :: T.toList) -> b ≠ e /\ T ≠ some b := fun b hb => by
    refine ⟨fun z => hb (by rw [z]; exact .head _), fun z => hb ?_⟩
    rw [z]; exact .tail _ (.head _)
  have tr : ∀ b u, H b = some u -> b ≠ e /\ T ≠ some b := fun b u q => by
    constructor
    · intro z
      rw [z, h1.2.2.2.2.1] at q
      cases q
    · intro z
      have := (h2 b z).2.2.2.2.1
      rw [this] at q
      cases q
  refine I.step (g' := s.gens) (t' := s.toks) (d' := s.drawn) (ch := e :: T.toList) (fun b hb => ?_) (fun b o hL hf hc q n => ?_) (fun b o hL hf hc q n => ?_) (fun b o hc q n => n) (fun b o hc q => ?_) (fun _ _ q => q) (fun _ _ _ q => q) (fun b ps q => ⟨#[], by rw [q]; simp⟩) (fun m hm => ?_) (fun b u q => ?_) I.bare
  · have : Own X pins H b := by
      rcases List.mem_cons.mp hb with rfl | z
      · exact h1
      · exact h2 b (by cases T with | none => cases z | some t => simp at z; rw [z])
    exact ⟨.inr this.1, this.2.1, this.2.2.1, this.2.2.2.1⟩
  · obtain ⟨n1, n2⟩ := ne b hc
    exact (K b o n1 n2 q).1 fun z => (sub b z).elim hL hf
  · obtain ⟨n1, n2⟩ := ne b hc
    exact (K b o n1 n2 q).2
  · obtain ⟨n1, n2⟩ := ne b hc
    obtain ⟨sl, z⟩ := (K b o n1 n2 q).2
    exact ⟨_, z⟩
  · obtain ⟨o, es, ep, ho, r⟩ := hm
    obtain ⟨sl, z⟩ := (K _ o (Ne.symm h1.2.1) (fun z => (h2 _ z).2.1 rfl) ho).2
    exact ⟨_, es, ep, z, r⟩
  · refine (I.hok b u q).stay (fun c v hc z => ?_) (fun _ z => z) fun _ _ z => z
    have hn : ∃ u', H c = some u' := by
      rcases hc with rfl | z
      · exact ⟨u, q⟩
      · exact ⟨_, z⟩
    obtain ⟨u', hu⟩ := hn
    obtain ⟨n1, n2⟩ := tr c u' hu
    refine (K c v n1 n2 z).1 fun hf => ?_
    rw [I.stkFree c hf] at hu; cases hu
theorem flight_trc {M : Model} {A : Around} {E : Value -> Shared -> Prop} {c a0 : Value} {dd : Option Addr} {t : Addr} {Q : Unit -> Shared -> Prop} (ht : Trc s.heap e c dd a0 (some t))
    (h : ∀ h', Trc h' e c dd a0 (some t) -> Kpt [] e (some t) s.heap h' -> Q () { s with heap := h' }) : wpAny M A (setFlight (.ref e) none) Q E s := by
  obtain ⟨oe, vs, he, rfl, rfl, hd, h0, hn, hs⟩ := ht
  obtain ⟨h1, hte, oT, ts, hT, hdT, h3⟩ := hs t rfl
  have sz : 3 < ts.size := (Array.getElem?_eq_some_iff.mp h3).1
  unfold setFlight
  refine wpAny_bind (wpAny_field he hd h1 ?_)
  rw [if_pos (show (Value.ref t != Value.none) = true from by simp)]
  refine wpAny_setField hT hdT sz (h _ ⟨oe, vs, ?_, rfl, rfl, hd, h0, hn, fun t' q => ?_⟩ fun b o hb hbt q => ?_)
  · rw [Heap.get?_update_other _ _ hte]; exact he
  · cases q
    refine ⟨h1, hte, _, _, Heap.get?_update_self _ hT (Obj.isFreed_of_fields (Obj.data_mapFields hdT _)), Obj.data_mapFields hdT _, ?_⟩
    rw [Array.getElem?_setIfInBounds_self_of_lt sz]; rfl
  · have : (s.heap.update t (Obj.mapFields (·.setIfInBounds 3 ((none : Option Addr).elim Value.none fun f => rawInt f)))).get? b = some o := by
      rw [Heap.get?_update_other _ _ (fun z => hbt (by rw [z]))]; exact q
    exact ⟨fun _ => this, o.slots, this⟩
theorem Kpt.wide {S S' : List Addr} {h h' : Heap} (K : Kpt S e T h h') (hs : ∀ b ∈ S, b ∈ S') : Kpt S' e T h h' := fun b o n1 n2 q => ⟨fun hb => (K b o n1 n2 q).1 fun z => hb (hs b z), (K b o n1 n2 q).2⟩
theorem unbind_ok {M : Model} {A : Around} {E : Value -> Shared -> Prop} {i : Nat} {n : Str} {pos : Pos} {Q : Unit -> Shared -> Prop} (I : Inv X pins σ H s) (hN : X.N.Nodup) (hi : X.N[i]? = some n) (hl : X.env.scope.names.lookup n = some .local)
    (h : ∀ s', Inv X pins (σ.set i none) H s' -> Q () s') : wpAny M A (do bindName X.env n .none; unbindBehindTheSuite X.env n pos) Q E s := by
  refine wpAny_bind (wpAny_bindName (store_ok (v := .non) I hN hi (.inl hl) rfl (fun s1 I1 => ?_) (.inr hl)))
  have hiσ : i < σ.length := by rw [I.len]; exact (List.getElem?_eq_some_iff.mp hi).1
  obtain ⟨m, hn, hlk⟩ := id I1.loc
  have hcls : (X.env.scope.kind == .class || (X.env.scope.kind == .module && X.env.locals != X.env.globals)) = false := by rw [I.ok.kind]; rfl
  obtain ⟨u, ru, look⟩ := hlk i n .non hi (List.getElem?_set_self hiσ) (.inl hl)
  have hm : m n = some u := by
    rcases look with ⟨_, z⟩ | ⟨z, _⟩
    · exact z
    · have z' : X.env.scope.names.lookup n = some .cell ∨ X.env.scope.names.lookup n = some .free := z
      rw [hl] at z'
      rcases z' with z' | z' <;> cases z'
  unfold unbindBehindTheSuite
  refine wpAny_onRaise (wpAny_unbindName_local hl hn hm hcls fun h' w hn' hs => h _ ?_)
  obtain ⟨oL, _, _, hoL, _⟩ := id hn
  have cne := I1.cne
  refine ⟨I1.ok, I1.os, I1.bare, ⟨fun b o e n hb hx => ?_, fun b o e n hb hx => ?_, I1.base.free, fun b o e hx => ?_, I1.base.tups, I1.base.frzs, I1.base.tbls⟩, ⟨_, hn', fun j y v' e1 e2 e3 => ?_⟩, fun y c e => ?_, I1.free, I1.freeC, fun p hp => ?_, fun b ob e => ?_, by simpa using I.len⟩
  · exact (hs.2 b (Nat.ne_of_lt (Nat.lt_of_lt_of_le (Heap.lt_size e) I1.ok.above))).trans (I1.base.keep b o e n hb hx)
  · obtain ⟨sl, e1⟩ := I1.base.slot b o e n hb hx
    exact ⟨sl, (hs.2 b (Nat.ne_of_lt (Nat.lt_of_lt_of_le (Heap.lt_size e) I1.ok.above))).trans e1⟩
  · obtain ⟨o', e1⟩ := I1.base.there b o e hx
    exact ⟨o', (hs.2 b (Nat.ne_of_lt (Nat.lt_of_lt_of_le (Heap.lt_size e) I1.ok.above))).trans e1⟩
  · by_cases hj : j = i
    · subst hj
      rw [List.getElem?_set_self hiσ] at e2
      cases e2
    · rw [List.getElem?_set_ne (Ne.symm hj)] at e2
      obtain ⟨u', r', q⟩ := hlk j y v' e1 (by rw [List.getElem?_set_ne (Ne.symm hj)]; exact e2) e3
      refine ⟨u', r', ?_⟩
      rcases q with ⟨k, e⟩ | ⟨k, c, e, z⟩
      · refine .inl ⟨k, ?_⟩
        have : y ≠ n := fun e => hj (nodup_ix hN e1 (e ▸ hi))
        simp [this, e]
      · exact .inr ⟨k, c, e, z.sameBut hs (cne y c e)⟩
  · obtain ⟨w', z⟩ := I1.cell y c e
    exact ⟨w', z.sameBut hs (cne y c e)⟩
  · obtain ⟨e, n, ne, nf, d⟩ := I1.pin p hp
    exact ⟨(hs.2 p.1 ne).trans e, n, ne, nf, d⟩
  · refine (I1.hok b ob e).stay (fun c w' hc q => (hs.2 c ?_).trans q) (fun _ q => q) fun _ _ q => q
    rintro rfl
    have hf := I1.free
    rcases hc with rfl | hc
    · rw [hf] at e; cases e
    · rw [hf] at hc; cases hc
end
def cxE (X : Cx) (ea : Addr) (pn : List (Addr × Obj)) : Cx := { X with A := X.A.mark (some (.ref ea)), calm := false, pn := pn ++ X.pn, xe := fun _ _ => False }
section
variable {X : Cx} {pins : List (Addr × Obj)} {σ : St} {H : Hp} {s : Shared} {ea : Addr} {pn : List (Addr × Obj)}
theorem ok_in (ok : X.Ok) : (cxE X ea pn).Ok :=
  ⟨ok.mod, ok.kind, ok.glob, ok.blt, ok.above, ok.inj, ok.has, ok.cab, fun z => (nomatch z), ok.frames, ok.stk, ok.exf, ok.bs, ok.bsz, ok.noex, ok.exfs, ok.funs, ok.frf⟩
theorem inv_in (I : Inv X pins σ H s) (h : ∀ p ∈ pn, s.heap.get? p.1 = some p.2 /\ H p.1 = none /\ p.1 ≠ X.env.locals /\ p.1 ∉ X.fs /\ ∀ v, p.2.data ≠ .cell v) : Inv (cxE X ea pn) pins σ H s :=
  ⟨ok_in I.ok, I.os, I.bare, I.base, I.loc, I.cell, I.free, I.freeC, fun p hp => by
    have hp' : p ∈ (pn ++ X.pn) ++ pins := hp
    rw [List.append_assoc] at hp'
    rcases List.mem_append.mp hp' with z | z
    · exact h p z
    · exact I.pin p z, I.hok, I.len⟩
theorem inv_out (ok : X.Ok) (I : Inv (cxE X ea pn) pins σ H s) : Inv X pins σ H s :=
  ⟨ok, I.os, I.bare, I.base, I.loc, I.cell, I.free, I.freeC, fun p hp => I.pin p (by
    show p ∈ (pn ++ X.pn) ++ pins
    rw [List.append_assoc]; exact List.mem_append_right _ hp), I.hok, I.len⟩
end
section
variable {X : Cx} {C MC : Addr} {ie : Nat} {r : St -> Hp -> (St -> XK) -> Prop} {ts : Addr -> Addr -> TS} {body suite : List Stmt} {b0 : Stmt} {xM n : Str} {pM hpos pos : Pos}
end
section
variable {X : Cx} {C HE fI ea dx M2 : Addr} {oe : Obj} {fd n x y : Str} {ie iy : Nat} {pos p p2 p3 pos2 pos3 : Pos} {ta tb : TE}
def tAtE (ie : Nat) (ea dx : Addr) (fd : Str) : TE := fun σ H Q => σ[ie]? = some (some (.ref ea)) /\ ∃ v, H dx = some (.xd [(fd, v)]) /\ Q v H
theorem pe_atE (xc : XC X.K C HE fI fd) (hpn : (ea, oe) ∈ X.pn) (hc : oe.cls = .ref C) (hd : oe.dict = some dx) (hf : ∃ fs, oe.data = .fields fs) (hv : PE X (.Name n p) (tVar ie))
    (hb : attributeBase (.Name n p) fd X.env (eval (.Name n p) X.env) = eval (.Name n p) X.env := by rfl) : PE X (.Attribute (.Name n p) fd pos) (tAtE ie ea dx fd) := by
  intro pins s σ H Q I h
  obtain ⟨e1, v, e2, q⟩ := h
  obtain ⟨fs, hf⟩ := hf
  refine attr_of hb (thn (hv pins s σ H (fun v H1 => v = .ref ea /\ H1 = H) I ⟨_, e1, rfl, rfl⟩) fun u s1 ⟨x, H1, I1, rx, ex, eH⟩ => ?_)
  subst ex eH
  obtain rfl : u = Value.ref ea := rx
  obtain ⟨mA, hn, hr⟩ := (I1.hok dx _ e2)
  have := hr fd
  simp only [List.lookup, beq_self_eq_true] at this
  obtain ⟨w, hw, rw'⟩ := RelO.some_of this
  exact get_exc I1.kIn (I1.pin (ea, oe) (List.mem_append_left _ hpn)).1 hc hd hf hn xc.sub xc.ga xc.gt xc.na xc.hd hw (handed_of rw') ⟨v, _, I1.tok _, rw', q⟩
end
section
variable {X : Cx} {k : Nat} {f : Addr} {f0 : FuncData} {ps : List Str} {sp : Sp} {x : Str} {pos p : Pos} {e : Expr} {es : List Expr} {t : TA} {st : Stmt} {rest : List Stmt} {E : XK}
theorem PA.nox {es : List Expr} {t : TA} (h : PA X.nox es t) : PA X es t := fun pos pins s σ H Q I hw =>
  wpAny_mono (h pos pins s σ H Q (I.wish _) hw) (fun _ _ ⟨v, H', I', r, q⟩ => ⟨v, H', I'.unwish, r, q⟩) fun _ _ z => False.elim z
theorem PS.nox {st : Stmt} {t : TS} (h : PS X.nox st t) : PS X st t := fun pins s σ H D I hw =>
  wpAny_mono (h pins s σ H D (I.wish _) hw) (fun _ _ q => q.unwish) fun _ _ z => False.elim z
end
end L6
namespace Dv
open PySem PySem.Spec L2 L3 L4 L6
open PyProof.Rows hiding St
def rSp (K : KW) (C : Addr) (fd : Str) (n : Nat) (m : List En -> Option D) : Sp := fun vs H _ E =>
  ∃ F xs d, Same F H /\ xs.length = n /\ Paired (fun x v => ArgE K F H x v) xs vs /\ m xs = some d /\ ∀ dx v F' H', Ext F H F' H' -> H' dx = some (.xd [(fd, v)]) -> Rp K F' d v -> E (.ref C) (some dx) H'
structure Rx (P : Program) (w : World) (K : PySem.W.Frag) (mg : Str -> Option Value) (base : Heap) (x : Str) (C : Addr) (fd : Str) (k n : Nat) (m : List En -> Option D) : Prop where
  ex : ∃ f f0 ps, FnOk P w K mg base (CX1 P w) k f f0 ps (rSp ⟨K, w⟩ C fd n m) /\ mg x = some (.ref f) /\ PySem.W.keepIn K (.ref f) = true /\ Binds K f0 ps []
def lB (K : KW) (B : Bs) (C : Addr) (fd : Str) (E : XK) (g : EnvD -> Option D) : TS := fun _ σ H =>
  ∃ F ρ d, Rep K B F σ H ρ /\ g ρ = some d /\ ∀ dx v F' H', Ext B.F0 B.H0 F' H' -> H' dx = some (.xd [(fd, v)]) -> Rp K F' d v -> E (.ref C) (some dx) H'
section
variable {P : Program} {w : World} {K : PySem.W.Frag} {mg : Str -> Option Value} {base : Heap} {N : List Str} {qual : Str} {scope : Scope} {f : Addr} {cd : Value} {A : Around} {outer : List Env} {s0 : Shared} {H0 : Hp} {E : XK}
variable {X : Cx} {B : Bs} {C HE fI : Addr} {fd x : Str} {pos p cpos : Pos} {a e : Expr} {es : List Expr} {st : Stmt} {rest : List Stmt} {k n : Nat} {g : EnvD -> Option D} {gs : SD} {gxs : EnvD -> Option (List En)} {m : List En -> Option D} {f0 : FuncData} {ps : List Str}
end
section
variable {X : Cx} {B : Bs} {C HE fI MC M2 : Addr} {fd x : Str} {pos p cpos : Pos} {a e c : Expr} {es : List Expr} {rest sa sb : List Stmt} {k n : Nat} {g ga gb : EnvD -> Option D} {gt : EnvD -> Option Bool} {gxs : EnvD -> Option (List En)} {m : List En -> Option D}
theorem rep_drop {K : KW} {F : Hp} {σ : St} {H : Hp} {ρ : EnvD} {i : Nat} (r : Rep K B F σ H ρ) (h : ∀ x, ρ[i]? ≠ some (some x)) : Rep K B F (σ.set i none) H ρ := by
  have ne : ∀ {j : Nat} {x : En}, ρ[j]? = some (some x) -> j ≠ i := fun {j x} e z => by subst z; exact h x e
  refine ⟨r.ex, by simp [r.len], fun j x e => ?_, fun j l y z v w e1 e2 s1 s2 hne => ?_⟩
  · obtain ⟨v, h1, h2⟩ := r.ents j x e
    exact ⟨v, by rw [List.getElem?_set_ne (Ne.symm (ne e))]; exact h1, h2⟩
  · rw [List.getElem?_set_ne (Ne.symm (ne e1))] at s1
    rw [List.getElem?_set_ne (Ne.symm (ne e2))] at s2
    exact r.dj j l y z v w e1 e2 s1 s2 hne
variable {xM y n2 xI fx : Str} {ie iy i : Nat} {pM hpos pI pN pC pA pE' pY pK pB pF apos epos : Pos} {body : List Stmt} {nm : Str}
end
structure Exc (P : Program) (w : World) (K : PySem.W.Frag) (mg : Str -> Option Value) (base : Heap) (CT HE fI : Addr) (fd xT xH : Str) : Prop where
  xc : XC K CT HE fI fd
  xm : XM K CT CT
  xmH : XM K CT HE
  z : PySem.W.kitOne K (.ref CT) (.ref HE) = some true
  zT : PySem.W.kitOne K (.ref CT) (.ref CT) = some true
  mT : mg xT = some (.ref CT)
  mH : mg xH = some (.ref HE)
  ini : ∃ f0 ps, FnOk P w K mg base CX0 1 fI f0 ps (xiSp CT fd) /\ Binds K f0 ps []
section
variable {P : Program} {w : World} {K : PySem.W.Frag} {mg : Str -> Option Value} {base : Heap} {N : List Str} {qual : Str} {scope : Scope} {f : Addr} {cd : Value} {A : Around} {outer : List Env} {s0 : Shared} {H0 : Hp} {E : XK}
variable {B : Bs} {CT HE fI : Addr} {fd xT xH : Str} {pos p cpos : Pos} {a : Expr} {rest : List Stmt} {g : EnvD -> Option D}
theorem kit_same {K : PySem.W.Frag} {v : Value} : PySem.W.kitOne K v v = some true := by unfold PySem.W.kitOne; rw [if_pos (beq_self_eq_true _)]
theorem xi_end {C e t : Addr} {fd : Str} {v : V} {H : Hp} {Q : VK} (q : ∀ t' dx, H dx = none -> dx ≠ e -> Q .non (upd (upd H e (ExO e C t' (some dx))) dx (.xd [(fd, v)]))) (t' dx : Addr) (h1 : upd H e (ExO e C t' none) dx = none) (h2 : dx ≠ e) :
    Q .non (upd (upd (upd H e (ExO e C t' none)) e (ExO e C t' (some dx))) dx (.xd [(fd, v)])) := by
  rw [upd_upd]
  rw [upd_ne h2] at h1
  exact q t' dx h1 h2
end
section
variable {X : Cx} {B : Bs} {C HE fI MC M2 : Addr} {fd x : Str} {pos p cpos : Pos} {gb : EnvD -> Option D}
variable {xM y n2 xI fx : Str} {ie iy i : Nat} {pM hpos pI pN pC pA pE' pY pK pB pF apos epos : Pos} {body : List Stmt} {nm : Str}
end
section
variable {P : Program} {w : World} {K : PySem.W.Frag} {mg : Str -> Option Value} {base : Heap} {N : List Str} {qual : Str} {scope : Scope} {f : Addr} {cd : Value} {A : Around} {outer : List Env} {s0 : Shared} {H0 : Hp} {E : XK}
variable {X : Cx} {B : Bs} {C : Addr} {fd x : Str} {pos p cpos lpos : Pos} {e elt tg : Expr} {es ifs : List Expr} {rest : List Stmt} {k n i : Nat} {gxs : EnvD -> Option (List En)} {m : List En -> Option D} {own : List Str} {cap : List (Str × Nat)} {scp : Scope}
end
end Dv
namespace Dv
open PySem PySem.Spec L2 L3 L4
open PyProof.Rows hiding St
section
variable {X : Cx} {B : Bs} {e o : Expr} {apos cpos : Pos} {go : EnvD -> Option D} {gs : EnvD -> Option (List D)}
end
end Dv
namespace Dv
open PySem PySem.Spec L2 L3 L4 L6
open PyProof.Rows hiding St
def noStar : Expr -> Bool
  | .Starred _ _ => false
  | _ => true
theorem star_of {e : Expr} {es : List Expr} {env : Env} (h : noStar e = true) : starEach (e :: es) env = (false, eval e env) :: starEach es env := by
  cases e <;> first | rfl | (cases h)
def PassS (X : Cx) (E : St -> XK) : Prop := ∀ (pins : List (Addr × Obj)) (σ : St) (H : Hp) (s : Shared) (e : Value) (s' : Shared), Inv X pins σ H s -> CX1 X.prog X.w X.stack H s (E σ) e s' -> X.xe e s'
abbrev Xv := Str × Option D
def Pd (K : KW) (F H : Hp) (fd : Str) (dd : Option Addr) : Option D -> Prop
  | none => dd = none
  | some d => ∃ dx v, dd = some dx /\ H dx = some (.xd [(fd, v)]) /\ Rp K F d v
def ySp (K : KW) (ca : Str -> Addr) (fd : Str) (n : Nat) (m : List En -> Option Xv) : Sp := fun vs H _ E =>
  ∃ F xs q, Same F H /\ xs.length = n /\ Paired (fun x v => ArgE K F H x v) xs vs /\ m xs = some q /\ ∀ dd F' H', Ext F H F' H' -> Pd K F' H' fd dd q.2 -> E (.ref (ca q.1)) dd H'
structure Ry (P : Program) (w : World) (K : PySem.W.Frag) (mg : Str -> Option Value) (base : Heap) (ca : Str -> Addr) (fd : Str) (x : Str) (k n : Nat) (m : List En -> Option Xv) : Prop where
  ex : ∃ f f0 ps, FnOk P w K mg base (CX1 P w) k f f0 ps (ySp ⟨K, w⟩ ca fd n m) /\ mg x = some (.ref f) /\ PySem.W.keepIn K (.ref f) = true /\ Binds K f0 ps []
def lV (K : KW) (B : Bs) (ca : Str -> Addr) (fd : Str) (E : St -> XK) (g : EnvD -> Option Xv) : St -> Hp -> Prop := fun σ H =>
  ∃ F ρ q, Rep K B F σ H ρ /\ g ρ = some q /\ ∀ dd F' H', Rep K B F' σ H' ρ -> Same F F' -> Pd K F' H' fd dd q.2 -> E σ (.ref (ca q.1)) dd H'
def DV (X : Cx) (B : Bs) (ca : Str -> Addr) (fd : Str) (E : St -> XK) (e : Expr) (g : EnvD -> Option Xv) : Prop := PE X e fun σ H _ => lV X.kw B ca fd E g σ H
def lVs (K : KW) (B : Bs) (ca : Str -> Addr) (fd : Str) (E : St -> XK) (g : EnvD -> Option (EnvD × Xv)) : St -> Hp -> Prop := fun σ H =>
  ∃ F ρ q, Rep K B F σ H ρ /\ g ρ = some q /\ ∀ dd σ' F' H', Rep K B F' σ' H' q.1 -> Same F F' -> Pd K F' H' fd dd q.2.2 -> E σ' (.ref (ca q.2.1)) dd H'
def DVs (X : Cx) (B : Bs) (ca : Str -> Addr) (fd : Str) (E : St -> XK) (sts : List Stmt) (g : EnvD -> Option (EnvD × Xv)) : Prop := PSs X sts fun _ σ H => lVs X.kw B ca fd E g σ H
theorem pe_no {X : Cx} {e : Expr} : PE X e fun _ _ _ => False := fun _ _ _ _ _ _ h => h.elim
section
variable {X : Cx} {B : Bs} {ca : Str -> Addr} {fd x : Str} {E : St -> XK} {pos p cpos : Pos} {a b e c : Expr} {es : List Expr} {st : Stmt} {rest sa sb : List Stmt} {k n : Nat} {g ga gb : EnvD -> Option Xv} {gd : EnvD -> Option D} {gl : EnvD -> Option (List D)} {gs : SD} {gt : EnvD -> Option Bool} {gxs : EnvD -> Option (List En)} {m : List En -> Option Xv} {h1 h2 : EnvD -> Option (EnvD × Xv)}
def yCall (m : List En -> Option Xv) (gxs : EnvD -> Option (List En)) : EnvD -> Option Xv := fun ρ => (gxs ρ).bind m
theorem dv_call (hp : PassS X E) (h : Ry X.prog X.w X.kw X.mg X.base ca fd x k n m) (hn : ∀ xs o, m xs = some o -> xs.length = n) (hr : Room k X.A) (hg : Gl X x) (ha : DNs X.nox B (e :: es) gxs)
    (hdb : (x == ("__debug__" : Str)) = false := by decide +kernel) (he : starEach (e :: es) X.env = (false, eval e X.env) :: starEach es X.env := by rfl) (hpl : (backTo pos (starEach es X.env)).any (·.1) = false := by rfl) :
    DV X B ca fd E (.Call (.Name x p) (e :: es) [] pos) (yCall m gxs) := by
  obtain ⟨f, f0, ps, F, hm, hk, hb⟩ := h.ex
  intro pins s σ H Q I h
  obtain ⟨F0, ρ, q0, r, hgq, kk⟩ := h
  unfold yCall at hgq
  cases q1 : gxs ρ with
  | none => rw [q1] at hgq; cases hgq
  | some xs =>
    rw [q1] at hgq
    have hgq : m xs = some q0 := hgq
    refine wpAny_Call_Name_kw (ld_glob I hg hm ?_ hdb)
    refine PySem.W.callWith_K (h₀ := X.base) I.ok.mod.kin hk (wpAny_mono (ha pos pins s σ H (fun vs H1 => ySp X.kw ca fd n m vs H1 (fun _ _ => False) (E σ)) (I.wish _) ⟨F0, ρ, xs, r, q1, fun vs F1 H1 e1 p1 => ⟨F1, xs, q0, e1.fh, hn xs q0 hgq, p1, hgq, fun dd F' H' e2 pd => kk dd F' H' (r.ext (e1.trans e2)) (e1.trans e2).ff pd⟩⟩) (fun us s1 ⟨vs, H1, I1, rv, q⟩ => ⟨I1.kIn, ?_⟩) fun _ _ z => False.elim z) he hpl
    have I1 := I1.unwish
    have hl : (us ++ ([] : List Value)).length = ps.length := by rw [List.append_nil, <- rv.length]; exact F.len _ _ _ _ q
    refine wpAny_call (codeAny_mono (F.run X.A X.stack s1 H1 ⟨us, []⟩ us vs _ (E σ) hr I1.env0 (by have := hb s1 us I1.kIn hl; rw [List.append_nil] at this; exact this) rv q) fun r s' hq => ?_)
    cases r with
    | error e => exact hp pins σ H1 s1 e s' I1 hq
    | ok fl =>
      cases fl with
      | ret u => obtain ⟨_, _, _, _, _, _, _, z⟩ := hq; exact z.elim
      | next => exact False.elim hq
      | brk => exact False.elim hq
      | cont => exact False.elim hq
def yAlt {α : Type} (g1 g2 : EnvD -> Option α) : EnvD -> Option α := fun ρ => match g1 ρ with
  | some q => some q
  | none => g2 ρ
theorem dvs_alt (d1 : DVs X B ca fd E rest h1) (d2 : DVs X B ca fd E rest h2) : DVs X B ca fd E rest (yAlt h1 h2) := fun pins s σ H D I ⟨F, ρ, q, r, hg, k⟩ => by
  unfold yAlt at hg
  split at hg
  · rename_i q' hq; cases hg; exact d1 pins s σ H D I ⟨F, ρ, q, r, hq, k⟩
  · exact d2 pins s σ H D I ⟨F, ρ, q, r, hg, k⟩
def yE (g : EnvD -> Option Xv) : EnvD -> Option (EnvD × Xv) := fun ρ => (g ρ).map fun q => (ρ, q)
theorem yE_ok {K : KW} {σ : St} {H : Hp} (h : lVs K B ca fd E (yE g) σ H) : lV K B ca fd E g σ H := by
  obtain ⟨F, ρ, q, r, hg, k⟩ := h
  unfold yE at hg
  cases q1 : g ρ with
  | none => rw [q1] at hg; cases hg
  | some q' => rw [q1] at hg; cases hg; exact ⟨F, ρ, q', r, q1, fun dd F' H' r' s' pd => k dd σ F' H' r' s' pd⟩
def ySeq (gs : SD) (h : EnvD -> Option (EnvD × Xv)) : EnvD -> Option (EnvD × Xv) := fun ρ => match gs ρ with
  | some (.next ρ') => h ρ'
  | _ => none
theorem dvs_seq (d1 : DS X.nox B st gs) (d2 : DVs X B ca fd E rest h2) : DVs X B ca fd E (st :: rest) (ySeq gs h2) :=
  pss_imp (pss_cons (PS.nox d1) d2) fun D σ H ⟨F, ρ, q, r, hg, k⟩ => by
    unfold ySeq at hg
    split at hg
    · rename_i ρ' q1
      exact ⟨F, ρ, _, r, q1, fun σ' F' H' r' s' => ⟨F', ρ', q, r', hg, fun dd σ2 F2 H2 r2 s2 pd => k dd σ2 F2 H2 r2 (s'.trans s2) pd⟩⟩
    · cases hg
def yNo {α : Type} : EnvD -> Option α := fun _ => none
theorem dvs_no : DVs X B ca fd E rest yNo := fun _ _ _ _ _ _ ⟨_, _, _, _, hg, _⟩ => by cases hg
def yIf (gt : EnvD -> Option Bool) (h1 h2 : EnvD -> Option (EnvD × Xv)) : EnvD -> Option (EnvD × Xv) := fun ρ => (gt ρ).bind fun b => if b = true then h1 ρ else h2 ρ
theorem dvs_if (hc : DT X.nox B c gt) (d1 : DVs X B ca fd E sa h1) (d2 : DVs X B ca fd E sb h2) : DVs X B ca fd E (.If c sa sb pos :: rest) (yIf gt h1 h2) :=
  pss_imp (pss_cons (ps_if (PT.nox hc) d1 d2) (u := fun _ _ _ => False) fun _ _ _ _ _ _ z => z.elim) fun D σ H ⟨F, ρ, q, r, hg, k⟩ => by
    unfold yIf at hg
    cases q1 : gt ρ with
    | none => rw [q1] at hg; cases hg
    | some b =>
      rw [q1] at hg
      have hg : (if b = true then h1 ρ else h2 ρ) = some q := hg
      refine ⟨F, ρ, b, r, q1, fun F1 H1 e1 => ?_⟩
      cases b with
      | true => rw [if_pos rfl] at hg; exact iteT ⟨F1, ρ, q, r.ext e1, hg, fun dd σ2 F2 H2 r2 s2 pd => k dd σ2 F2 H2 r2 (e1.ff.trans s2) pd⟩
      | false => rw [if_neg (by decide)] at hg; exact iteF ⟨F1, ρ, q, r.ext e1, hg, fun dd σ2 F2 H2 r2 s2 pd => k dd σ2 F2 H2 r2 (e1.ff.trans s2) pd⟩
end
end Dv
namespace L6
open PySem PySem.Spec L2 L3 L4
open PyProof.Rows hiding St
def Trf (h : Heap) (e : Addr) (c : Value) (dd : Option Addr) (a0 : Value) (T : Option Addr) : Prop :=
  ∃ oe vs, h.get? e = some oe /\ oe.cls = c /\ oe.dict = dd /\ oe.data = .fields vs /\ vs[0]? = some a0 /\ (T = none -> vs[1]? = some .none) /\
    ∀ t, T = some t -> vs[1]? = some (.ref t) /\ t ≠ e /\ ∃ oT ts fl, h.get? t = some oT /\ oT.data = .fields ts /\ ts[3]? = some fl
theorem Trc.free {h : Heap} {e : Addr} {c : Value} {dd : Option Addr} {a0 : Value} {T : Option Addr} (t : Trc h e c dd a0 T) : Trf h e c dd a0 T := by
  obtain ⟨oe, vs, h1, h2, h3, h4, h5, h6, h7⟩ := t
  exact ⟨oe, vs, h1, h2, h3, h4, h5, h6, fun t q => let ⟨a, b, oT, ts, c, d, e⟩ := h7 t q; ⟨a, b, oT, ts, _, c, d, e⟩⟩
section
variable {M : Model} {A : Around} {E : Value -> Shared -> Prop} {s : Shared}
theorem note_newF {base : Heap} {env : Env} {outer : List Env} {L e : Addr} {oe : Obj} {vs : Array Value} {head a0 : Value} {hadNext : Bool} {Q : Unit -> Shared -> Prop}
    (hfr : A.frames = some (env :: outer)) (hl : s.heap.FunFrames base (env :: outer)) (hf : env.frame = some L)
    (he : s.heap.get? e = some oe) (hd : oe.data = .fields vs) (hsz : 1 < vs.size) (h0 : vs[0]? = some a0)
    (h : ∀ h' T, Trf h' e oe.cls oe.dict a0 (some T) -> s.heap.objs.size <= T -> Kpt (frs (env :: outer)) e none s.heap h' -> Q () { s with heap := h' }) :
    wpAny M A (do let a <- frameOf env; let pl <- entryPlaceOf L hadNext; let b <- EntryCells.newEntry head a .none (rawInt L) .none pl; setField (.ref e) 1 b) Q E s := by
  have hene : e ∉ (env :: outer).filterMap (·.frame) := fun hm => by
    obtain ⟨_, o, ho, hnf⟩ := hl.mem hm
    rw [he] at ho; cases ho; exact hnf vs hd
  refine wpAny_bind (wpAny_frameOf_fun hfr hl hf fun h1 hs1 => ?_)
  refine wpAny_bind (wpAny_entryPlaceOf fun pl hpl => ?_)
  unfold EntryCells.newEntry newFields
  refine wpAny_bind (wpAny_newObj_type ?_ (hpl.sizeOk5 _ _ _ _ _))
  generalize hoT : ({ cls := .type "traceback", dict := none, data := .fields ([head, .ref L, .none, rawInt L, .none] ++ (if pl.isEmpty then List.replicate 6 Value.none else pl)).toArray } : Obj) = oT
  have dT : oT.data = .fields ([head, .ref L, .none, rawInt L, .none] ++ (if pl.isEmpty then List.replicate 6 Value.none else pl)).toArray := by rw [<- hoT]
  have nfT : oT.isFreed = false := by rw [<- hoT]; rfl
  have he1 : h1.get? e = some oe := (hs1.2.1 e hene).trans he
  have he2 := Heap.get?_push_of_some (h := h1) oT he1
  have hTe : h1.objs.size ≠ e := Nat.ne_of_gt (Heap.lt_size he1)
  refine wpAny_setField he2 hd hsz ?_
  have hd3 := Obj.data_mapFields hd (·.setIfInBounds 1 (Value.ref h1.objs.size))
  have he3 := Heap.get?_update_self (Obj.mapFields (·.setIfInBounds 1 (Value.ref h1.objs.size))) he2 (Obj.isFreed_of_fields hd3)
  have hT3 := (Heap.get?_update_other (h1.push oT) (Obj.mapFields (·.setIfInBounds 1 (Value.ref h1.objs.size))) (Ne.symm hTe)).trans (Heap.get?_push_size h1 nfT)
  refine h _ h1.objs.size ⟨_, _, he3, Obj.cls_mapFields _ _, dict_mapFields _ _, hd3, ?_, fun q => (nomatch q), fun t q => ?_⟩ (Nat.le_of_eq hs1.1.symm) ?_
  · rw [Array.getElem?_setIfInBounds_ne (by decide)]; exact h0
  · cases q
    exact ⟨by simp [hsz], hTe, _, _, rawInt L, hT3, dT, by simp⟩
  · intro b o hbe _ hb
    have keep : ∀ u, h1.get? b = some u -> ((h1.push oT).update e (Obj.mapFields (·.setIfInBounds 1 (Value.ref h1.objs.size)))).get? b = some u := fun u hu => by
      rw [Heap.get?_update_other _ _ (Ne.symm hbe)]
      exact Heap.get?_push_of_some _ hu
    refine ⟨fun hS => keep o ((hs1.2.1 b hS).trans hb), ?_⟩
    obtain ⟨sl, q⟩ := hs1.2.2 b o hb
    exact ⟨sl, keep _ q⟩
theorem noteF {base : Heap} {env : Env} {outer : List Env} {L e : Addr} {c a0 : Value} {dd T : Option Addr} {Q : Unit -> Shared -> Prop}
    (hfr : A.frames = some (env :: outer)) (hl : s.heap.FunFrames base (env :: outer)) (hf : env.frame = some L) (ht : Trf s.heap e c dd a0 T)
    (h : ∀ h' T', Trf h' e c dd a0 (some T') -> (s.heap.objs.size <= T' ∨ T = some T') -> Kpt (frs (env :: outer)) e T s.heap h' -> Q () { s with heap := h' }) : wpAny M A (noteFrame (.ref e) env) Q E s := by
  have ht0 := ht
  obtain ⟨oe, vs, he, rfl, rfl, hd, h0, hn, hs⟩ := ht
  unfold noteFrame
  simp only [hf]
  cases T with
  | none =>
    have h1 := hn rfl
    refine wpAny_bind (wpAny_field he hd h1 ?_)
    rw [if_neg (by decide)]
    exact note_newF hfr hl hf he hd (Array.getElem?_eq_some_iff.mp h1).1 h0 fun h' T' a b => h h' T' a (.inl b)
  | some t =>
    obtain ⟨h1, hte, oT, ts, fl, hT, hdT, h3⟩ := hs t rfl
    refine wpAny_bind (wpAny_field he hd h1 ?_)
    rw [if_pos (show (Value.ref t != Value.none) = true from by simp)]
    refine wpAny_bind (wpAny_field hT hdT h3 ?_)
    by_cases hfl : (fl == rawInt L) = true
    · rw [if_pos hfl]
      exact wpAny_pure (h s.heap t ht0 (.inr rfl) fun b o _ _ q => ⟨fun _ => q, o.slots, q⟩)
    rw [if_neg hfl]
    refine wpAny_bind (wpAny_setField hT hdT (Array.getElem?_eq_some_iff.mp h3).1 ?_)
    have other : ∀ b, b ≠ t -> (s.heap.update t (Obj.mapFields (·.setIfInBounds 3 Value.none))).get? b = s.heap.get? b := fun b hb => Heap.get?_update_other _ _ (Ne.symm hb)
    have ne : ∀ b o, s.heap.get? b = some o -> (∀ ws, o.data ≠ .fields ws) -> b ≠ t := fun b o hb hnf q => by
      subst q; rw [hT] at hb; cases hb; exact hnf ts hdT
    refine note_newF hfr (hl.of_keeps fun b o hb hnf => ⟨o, (other b (ne b o hb hnf)).trans hb, rfl⟩) hf ((other e (Ne.symm hte)).trans he) hd (Array.getElem?_eq_some_iff.mp h1).1 h0 fun h' T' k1 k2 k3 => h h' T' k1 (.inl ?_) ?_
    · have : (s.heap.update t (Obj.mapFields (·.setIfInBounds 3 Value.none))).objs.size = s.heap.objs.size := by simp [Heap.update]
      rw [<- this]; exact k2
    · exact fun b o hbe hbt hb => k3 b o hbe (by simp) ((other b fun q => hbt (by rw [q])).trans hb)
theorem flightF {e t : Addr} {c a0 : Value} {dd fo : Option Addr} {Q : Unit -> Shared -> Prop} (ht : Trf s.heap e c dd a0 (some t))
    (h : ∀ h', Trf h' e c dd a0 (some t) -> (fo = none -> Trc h' e c dd a0 (some t)) -> Kpt [] e (some t) s.heap h' -> Q () { s with heap := h' }) : wpAny M A (setFlight (.ref e) fo) Q E s := by
  obtain ⟨oe, vs, he, rfl, rfl, hd, h0, hn, hs⟩ := ht
  obtain ⟨h1, hte, oT, ts, fl, hT, hdT, h3⟩ := hs t rfl
  have sz : 3 < ts.size := (Array.getElem?_eq_some_iff.mp h3).1
  unfold setFlight
  refine wpAny_bind (wpAny_field he hd h1 ?_)
  rw [if_pos (show (Value.ref t != Value.none) = true from by simp)]
  have he' : (s.heap.update t (Obj.mapFields (·.setIfInBounds 3 (fo.elim Value.none fun f => rawInt f)))).get? e = some oe := by rw [Heap.get?_update_other _ _ hte]; exact he
  have hT' := Heap.get?_update_self (Obj.mapFields (·.setIfInBounds 3 (fo.elim Value.none fun f => rawInt f))) hT (Obj.isFreed_of_fields (Obj.data_mapFields hdT _))
  have h3' : (ts.setIfInBounds 3 (fo.elim Value.none fun f => rawInt f))[3]? = some (fo.elim Value.none fun f => rawInt f) := Array.getElem?_setIfInBounds_self_of_lt sz
  refine wpAny_setField hT hdT sz (h _ ⟨oe, vs, he', rfl, rfl, hd, h0, hn, fun t' q => ?_⟩ (fun hfo => ⟨oe, vs, he', rfl, rfl, hd, h0, hn, fun t' q => ?_⟩) fun b o hb hbt q => ?_)
  · cases q
    exact ⟨h1, hte, _, _, _, hT', Obj.data_mapFields hdT _, h3'⟩
  · cases q
    subst hfo
    exact ⟨h1, hte, _, _, hT', Obj.data_mapFields hdT _, h3'⟩
  · have : (s.heap.update t (Obj.mapFields (·.setIfInBounds 3 (fo.elim Value.none fun f => rawInt f)))).get? b = some o := by
      rw [Heap.get?_update_other _ _ (fun z => hbt (by rw [z]))]; exact q
    exact ⟨fun _ => this, o.slots, this⟩
end
def cxT (X : Cx) (pn : List (Addr × Obj)) (W : Value -> Shared -> Prop) : Cx := { X with pn := pn ++ X.pn, xe := W }
section
variable {X : Cx} {pins pn : List (Addr × Obj)} {W : Value -> Shared -> Prop} {σ : St} {H : Hp} {s : Shared}
theorem inv_inT (I : Inv X pn σ H s) : Inv (cxT X pn W) [] σ H s :=
  ⟨⟨I.ok.mod, I.ok.kind, I.ok.glob, I.ok.blt, I.ok.above, I.ok.inj, I.ok.has, I.ok.cab, I.ok.hd, I.ok.frames, I.ok.stk, I.ok.exf, I.ok.bs, I.ok.bsz, I.ok.noex, I.ok.exfs, I.ok.funs, I.ok.frf⟩, I.os, I.bare, I.base, I.loc, I.cell, I.free, I.freeC, fun p hp => by
    have hp' : p ∈ (pn ++ X.pn) ++ [] := hp
    rw [List.append_nil] at hp'
    exact I.pin p ((List.mem_append.mp hp').elim (fun z => List.mem_append_right _ z) fun z => List.mem_append_left _ z), I.hok, I.len⟩
theorem okT (ok : (cxT X pn W).Ok) : X.Ok := ⟨ok.mod, ok.kind, ok.glob, ok.blt, ok.above, ok.inj, ok.has, ok.cab, ok.hd, ok.frames, ok.stk, ok.exf, ok.bs, ok.bsz, ok.noex, ok.exfs, ok.funs, ok.frf⟩
theorem inv_outT (ok : X.Ok) (I : Inv (cxT X pn W) pins σ H s) : Inv X pn σ H s :=
  ⟨ok, I.os, I.bare, I.base, I.loc, I.cell, I.free, I.freeC, fun p hp => I.pin p (by
    show p ∈ (pn ++ X.pn) ++ pins
    exact List.mem_append_left _ ((List.mem_append.mp hp).elim (fun z => List.mem_append_right _ z) fun z => List.mem_append_left _ z)), I.hok, I.len⟩
end
def WX (X : Cx) (pins : List (Addr × Obj)) (E : St -> XK) : Value -> Shared -> Prop := fun ex s' => ∃ σ' ea C dd a0 T H', ex = .ref ea /\ Inv X pins σ' H' s' /\ Trf s'.heap ea C dd a0 T /\ Own X pins H' ea /\ (∀ t, T = some t -> Own X pins H' t) /\ E σ' C dd H'
section
variable {X : Cx} {pins : List (Addr × Obj)} {E : St -> XK}
theorem pass_WX : Dv.PassS (cxT X pins (WX X pins E)) E := by
  intro pins' σ H s e s' I0 hx
  have I : Inv X pins σ H s := inv_outT (okT I0.ok) I0
  obtain ⟨ea, C, dd, a0, T, H', rfl, hos, bare, un, hok, ht, h1, h2, h3, h4, hE⟩ := hx
  exact ⟨σ, ea, C, dd, a0, some T, H', rfl, I.call' hos un hok bare fun b z => absurd z (by simp), ht.free, own_new I h1 h3, fun t q => by cases q; exact own_new I h2 h4, hE⟩
variable (hstk : X.stack = X.env :: X.outer /\ X.env.frame = some X.env.locals)
include hstk
theorem wx_note {e : Value} {s : Shared} {Q : Unit -> Shared -> Prop} {Ew : Value -> Shared -> Prop} (h : WX X pins E e s)
    (k : ∀ s', WX X pins E e s' -> (∃ ea C dd a0 T, e = .ref ea /\ Trf s'.heap ea C dd a0 (some T)) -> Q () s') : wpAny (model X.prog X.w) X.A (noteFrame e X.env) Q Ew s := by
  obtain ⟨σ', ea, C, dd, a0, T, H', rfl, I, ht, o1, o2, hE⟩ := h
  have hfr : X.A.frames = some (X.env :: X.outer) := by rw [I.ok.frames, hstk.1]
  have hff : s.heap.FunFrames X.base (X.env :: X.outer) := by have := I.stack; rw [hstk.1] at this; exact this
  refine noteF hfr hff hstk.2 ht fun h1 T1 t1 l1 k1 => k _ ⟨σ', ea, C, dd, a0, some T1, H', rfl, ?_, t1, o1, fun t q => ?_, hE⟩ ⟨ea, C, dd, a0, T1, rfl, t1⟩
  · rw [<- hstk.1] at k1
    exact inv_kpt I k1 o1 o2
  · cases q
    rcases l1 with l | l
    · exact own_new I l (I.hok.fresh l)
    · exact o2 _ l
omit hstk in
theorem wx_flight {e : Value} {s : Shared} {fo : Option Addr} {Q : Unit -> Shared -> Prop} {Ew : Value -> Shared -> Prop} (h : WX X pins E e s) (hT : ∃ ea C dd a0 T, e = .ref ea /\ Trf s.heap ea C dd a0 (some T))
    (k : ∀ s', WX X pins E e s' -> Q () s') : wpAny (model X.prog X.w) X.A (setFlight e fo) Q Ew s := by
  obtain ⟨σ', ea, C, dd, a0, T, H', rfl, I, ht, o1, o2, hE⟩ := h
  obtain ⟨ea', C', dd', a0', T', q, t'⟩ := hT
  cases q
  cases T with
  | none =>
    obtain ⟨oe, vs, h1, _, _, h4, _, h6, _⟩ := ht
    obtain ⟨oe', vs', g1, _, _, g4, _, _, g7⟩ := t'
    rw [h1] at g1; cases g1
    rw [h4] at g4; cases g4
    have := (g7 T' rfl).1
    rw [h6 rfl] at this; cases this
  | some T =>
    refine flightF ht fun h1 t1 _ k1 => k _ ⟨σ', ea, C, dd, a0, some T, H', rfl, ?_, t1, o1, o2, hE⟩
    exact inv_kpt I (k1.wide fun b z => nomatch z) o1 o2
theorem passes_WX : PassesOwn (model X.prog X.w) X.A X.env (WX X pins E) := by
  intro e s h
  unfold notedBy
  refine wx_note hstk h fun s1 w1 hT => ?_
  unfold cameBackBy
  obtain ⟨ea, C, dd, a0, T, rfl, t1⟩ := id hT
  obtain ⟨oe, vs, he, _, _, hd, _, _, hs⟩ := id t1
  refine wpAny_bind (wpAny_field he hd (hs T rfl).1 ?_)
  rw [if_neg (show ¬ ((Value.ref T == Value.none) = true) from by simp)]
  first
    | exact wx_flight w1 hT fun s2 w2 => w2
    | exact wpAny_bind (wpAny_pure (wx_flight w1 hT fun s2 w2 => w2))
end
section
variable {X : Cx} {E : St -> XK} {sts : List Stmt} {t : TS}
theorem pss_inW (h : ∀ pn, PSs (cxT X pn (WX X pn E)) sts t) (hx : ∀ pn e s', WX X pn E e s' -> X.xe e s') : PSs X sts t := fun pins s σ H D I q =>
  wpAny_mono (h pins [] s σ H D (inv_inT I) q) (fun f s1 z => by
    cases f with
    | next => obtain ⟨σ', H', I', q⟩ := z; exact ⟨σ', H', inv_outT I.ok I', q⟩
    | brk => obtain ⟨σ', H', I', q⟩ := z; exact ⟨σ', H', inv_outT I.ok I', q⟩
    | cont => obtain ⟨σ', H', I', q⟩ := z; exact ⟨σ', H', inv_outT I.ok I', q⟩
    | ret u => obtain ⟨v, σ', H', I', r, q⟩ := z; exact ⟨v, σ', H', inv_outT I.ok I', r, q⟩) (hx pins)
end
section
variable {P : Program} {w : World} {K : PySem.W.Frag} {mg : Str -> Option Value} {base : Heap} {N : List Str} {qual : Str} {scope : Scope} {f : Addr} {cd : Value} {A : Around} {outer : List Env} {s : Shared} {H : Hp} {E : XK}
theorem exit_fn {X : Cx} (hX : X = cxOf (CX1 P w) P w K mg base N qual scope f cd A outer s H E) (pn : List (Addr × Obj)) (e : Value) (s' : Shared) (h : WX X pn (fun _ => E) e s') : X.xe e s' := by
  obtain ⟨σ', ea, C, dd, a0, T, H', rfl, I, ht, o1, o2, hE⟩ := h
  have hs0 : X.s₀ = s := by subst hX; rfl
  have b1 : s.heap.objs.size <= ea := by have := o1.1; rw [hs0] at this; exact this
  have b2 : ∀ t, T = some t -> s.heap.objs.size <= t /\ H' t = none := fun t q => ⟨by have := (o2 t q).1; rw [hs0] at this; exact this, (o2 t q).2.2.2.2.1⟩
  have h3 : H' ea = none := o1.2.2.2.2.1
  subst hX
  show wpAny _ _ (leaving _ _) _ _ _
  unfold leaving
  have hl := I.stack
  have hfree := I.stkFree
  have hb0 := I.base
  have hok := I.hok
  have sz : s.heap.objs.size <= s'.heap.objs.size := I.sz
  refine wpAny_bind (noteF I.ok.frames hl rfl ht fun h1 T1 t1 l1 k1 => flightF (s := { s' with heap := h1 }) t1 fun h' _ t2 k2 => ?_)
  have t2 := t2 rfl
  have kT : H' T1 = none /\ s.heap.objs.size <= T1 := by
    rcases l1 with l | l
    · exact ⟨hok.fresh l, Nat.le_trans sz l⟩
    · exact ⟨(b2 _ l).2, (b2 _ l).1⟩
  have k3 : Kpt (frs ((envOfC qual scope s.heap.objs.size f cd) :: outer)) ea T s'.heap h' := fun b o n1 n2 q => by
    have n3 : some T1 ≠ some b := fun z => by
      cases z
      rcases l1 with l | l
      · exact absurd (Heap.lt_size q) (Nat.not_lt.mpr l)
      · exact n2 l
    obtain ⟨q1, sl, q2⟩ := k1 b o n1 n2 q
    refine ⟨fun hb => ((k2 b o n1 n3 (q1 hb)).1 (by simp)), ?_⟩
    obtain ⟨sl2, q3⟩ := (k2 b _ n1 n3 q2).2
    exact ⟨sl2, q3⟩
  have fr : ∀ b, b < s.heap.objs.size -> b ∉ frs outer -> b ∉ frs ((envOfC qual scope s.heap.objs.size f cd) :: outer) := fun b hb hn hm => by
    unfold frs at hm
    rw [List.filterMap_cons] at hm
    have q : (envOfC qual scope s.heap.objs.size f cd).frame = some s.heap.objs.size := rfl
    rw [q] at hm
    rcases List.mem_cons.mp hm with z | z
    · omega
    · exact hn z
  have lo : ∀ b o, s.heap.get? b = some o -> b ≠ ea /\ T ≠ some b /\ b < s.heap.objs.size := fun b o e => by
    have l := Heap.lt_size e
    refine ⟨Nat.ne_of_lt (Nat.lt_of_lt_of_le l b1), fun z => ?_, l⟩
    exact absurd (Nat.lt_of_lt_of_le l (b2 b z).1) (Nat.lt_irrefl _)
  refine ⟨ea, C, dd, a0, T1, H', rfl, I.os, I.bare, ⟨fun b o e n hb hx => ?_, fun b o e n hb hx => ?_, fun b o e n hx => hb0.free b o e n hx, fun b o e hx => ?_, hb0.tups, hb0.frzs, hb0.tbls⟩, fun a u e => ?_, t2, b1, kT.2, h3, kT.1, hE⟩
  · obtain ⟨l1, l2, l3⟩ := lo b o e
    exact (k3 b o l1 l2 (hb0.keep b o e n hb hx)).1 (fr b l3 hb)
  · obtain ⟨l1, l2, l3⟩ := lo b o e
    obtain ⟨sl, q⟩ := hb0.slot b o e n hb hx
    obtain ⟨sl', q'⟩ := (k3 b _ l1 l2 q).2
    exact ⟨sl', q'⟩
  · obtain ⟨l1, l2, l3⟩ := lo b o e
    obtain ⟨o', q⟩ := hb0.there b o e hx
    obtain ⟨sl', q'⟩ := (k3 b _ l1 l2 q).2
    exact ⟨_, q'⟩
  · refine (hok a u e).stay (fun b v hb q => ?_) (fun _ z => z) fun _ _ z => z
    have ht : H' b ≠ none := by
      rcases hb with rfl | z
      · rw [e]; simp
      · rw [z]; simp
    exact (k3 b v (fun z => ht (by rw [z]; exact h3)) (fun z => ht (b2 b z).2) q).1 fun z => ht (hfree b z)
end
section
variable {X : Cx} {pn : List (Addr × Obj)} {E : St -> XK} {C HE fI : Addr} {fd x : Str} {pos p cpos : Pos} {a : Expr} {t : TA} {k : Nat} {f0 : FuncData} {ps : List Str}
def sRaiseW (C : Addr) (fd : Str) (E : St -> XK) (t : TA) : TS := fun _ σ H => t σ H fun vs H1 => ∃ v, vs = [v] /\ ∀ dx, H1 dx = none -> E σ (.ref C) (some dx) (upd H1 dx (.xd [(fd, v)]))
theorem ps_raiseW (hc : X.calm = true) (xc : XC X.K C HE fI fd) (F : FnOk X.prog X.w X.K X.mg X.base CX0 k fI f0 ps (xiSp C fd)) (hr : Room (k + 1) X.A) (hb : Binds X.K f0 ps [])
    (hg : Gl X x) (hm : X.mg x = some (.ref C)) (ha : PA (cxT X pn (WX X pn E)) [a] t) (hdb : (x == ("__debug__" : Str)) = false := by decide)
    (he : starEach [a] X.env = (false, eval a X.env) :: starEach [] X.env := by rfl) (hpl : (backTo cpos (starEach [] X.env)).any (·.1) = false := by rfl) :
    PS (cxT X pn (WX X pn E)) (.Raise (some (.Call (.Name x p) [a] [] cpos)) none pos) (sRaiseW C fd E t) := by
  intro pins s σ H D I h
  have hh : X.A.handled = none := I.ok.hd hc
  obtain ⟨nm, qq, N', bs, bm, hdct, sn, sub, ab, col, dd, k0, k1, k2, k3, k5, mN, hC, hN, hi, T⟩ := xc.at I.ok.mod.kin
  have hbase : bm.contains (.type "BaseException") = true := T.hasType (by decide)
  rw [arm_exec_Raise]
  refine wpAny_bind (wpAny_standAt ?_)
  show wpAny _ _ (raiseStmt X.env (some (do let v <- eval (.Call (.Name x p) [a] [] cpos) X.env; standAt pos; pure v)) none) _ _ _
  refine raise_made (nm := nm) (q := qq) (C := C) (N := N') (bs := bs) (bm := bm) (hdct := hdct) (sn := sn) (sub := sub) (ab := ab) (col := col) (dd := dd) (k0 := k0) (k1 := k1) (k2 := k2) (k3 := k3) (k5 := k5) (newId := "ValueError.__new__") hbase hh (wpAny_bind ?_)
  refine wpAny_Call_Name_kw (ld_glob (X := cxT X pn (WX X pn E)) I hg hm ?_ hdb)
  refine PySem.W.callWith_K (h₀ := X.base) I.ok.mod.kin xc.kp (thn (ha cpos pins s σ H _ I h) fun us s1 ⟨vs, H1, I1, r1, v, ev, q⟩ => ⟨I1.kIn, ?_⟩) he hpl
  subst ev
  cases r1 with
  | @cons _ u _ _ ru r2 =>
  cases r2
  refine run_exc (X := cxT X pn (WX X pn E)) xc F hr hb I1 ru fun e t' dx s' I2 he hdx hde hl => wpAny_bind (wpAny_standAt (wpAny_pure ?_))
  have hee : upd (upd (upd H1 e (ExO e C t' none)) e (ExO e C t' (some dx))) dx (.xd [(fd, v)]) e = some (ExO e C t' (some dx)) := by rw [upd_ne (Ne.symm hde), upd_same]
  have ho := (I2.hok e _ hee).1
  refine ⟨e, t', some dx, rfl, I2.bk _ _ hC, ho, ?_⟩
  have I3 := inv_drop I2 hee
  have eq : del (upd (upd (upd H1 e (ExO e C t' none)) e (ExO e C t' (some dx))) dx (.xd [(fd, v)])) e = upd H1 dx (.xd [(fd, v)]) := by
    funext b
    by_cases h1 : b = e
    · subst h1
      rw [del_same, upd_ne (Ne.symm hde), he]
    · rw [del_ne h1]
      by_cases h2 : b = dx
      · subst h2; rw [upd_same, upd_same]
      · rw [upd_ne h2, upd_ne h2, upd_ne h1, upd_ne h1]
  rw [eq] at I3
  exact ⟨σ, e, .ref C, some dx, .ref t', none, _, rfl, inv_outT (okT I3.ok) I3, ⟨_, _, ho, rfl, rfl, rfl, rfl, fun _ => rfl, fun _ z => (nomatch z)⟩, own_new (inv_outT (okT I1.ok) I1) hl (by rw [upd_ne (Ne.symm hde)]; exact he), fun _ z => (nomatch z), q dx hdx⟩
end
section
variable {X : Cx} {MC : Addr} {ie : Nat} {t1 : TS} {t2 : (St -> XK) -> TS} {ts : Addr -> Addr -> Option Addr -> TS} {body suite : List Stmt} {b0 : Stmt} {xM n : Str} {pM hpos pos : Pos}
end
end L6
namespace Dv
open PySem PySem.Spec L2 L3 L4 L6
open PyProof.Rows hiding St
section
variable {P : Program} {w : World} {K : PySem.W.Frag} {mg : Str -> Option Value} {base : Heap} {N : List Str} {qual : Str} {scope : Scope} {f : Addr} {cd : Value} {A : Around} {outer : List Env} {s0 : Shared} {H0 : Hp}
variable {X : Cx} {pn : List (Addr × Obj)} {E : St -> XK} {B : Bs} {ca : Str -> Addr} {C HE fI : Addr} {fd x nm : Str} {pos p cpos : Pos} {a : Expr} {rest : List Stmt} {k : Nat} {gd : EnvD -> Option D} {f0 : FuncData} {ps : List Str} {g : EnvD -> Option (EnvD × Xv)}
def yRaise (nm : Str) (gd : EnvD -> Option D) : EnvD -> Option (EnvD × Xv) := fun ρ => (gd ρ).map fun d => (ρ, nm, some d)
theorem dvs_raise (hC : ca nm = C) (hc : X.calm = true) (xc : XC X.K C HE fI fd) (F : FnOk X.prog X.w X.K X.mg X.base CX0 k fI f0 ps (xiSp C fd)) (hb : Binds X.K f0 ps []) (hr : Room (k + 1) X.A) (hg : Gl X x) (hm : X.mg x = some (.ref C))
    (ha : DE (cxT X pn (WX X pn E)).nox B a gd) (hdb : (x == ("__debug__" : Str)) = false := by decide +kernel)
    (he : starEach [a] X.env = (false, eval a X.env) :: starEach [] X.env := by rfl) (hpl : (backTo cpos (starEach [] X.env)).any (·.1) = false := by rfl) :
    DVs (cxT X pn (WX X pn E)) B ca fd E (.Raise (some (.Call (.Name x p) [a] [] cpos)) none pos :: rest) (yRaise nm gd) :=
  pss_imp (pss_cons (ps_raiseW hc xc F hr hb hg hm (PA.nox (pa_cons ha pa_nil he)) hdb he hpl) (u := fun _ _ _ => False) fun _ _ _ _ _ _ z => z.elim) fun D σ H ⟨F, ρ, q, r, hg, k⟩ => by
    unfold yRaise at hg
    cases q1 : gd ρ with
    | none => rw [q1] at hg; cases hg
    | some d =>
      rw [q1] at hg
      cases hg
      refine ⟨F, ρ, d, r, q1, fun v F' H' e1 p1 => ⟨v, rfl, fun dx hdx => ?_⟩⟩
      have e2 : Ext F' H' F' (upd H' dx (.xd [(fd, v)])) := Ext.new e1.fh hdx
      have := k (some dx) σ F' _ (r.ext (e1.trans e2)) (e1.trans e2).ff ⟨dx, v, rfl, upd_same, p1⟩
      rw [hC] at this
      exact this
def mirY (N : List Str) (n : Nat) (g : EnvD -> Option (EnvD × Xv)) : List En -> Option Xv := fun xs => if xs.length = n then (g (stE N (xs.map some))).map (·.2) else none
theorem mirY_len {n : Nat} : ∀ xs o, mirY N n g xs = some o -> xs.length = n := fun xs o h => by
  unfold mirY at h
  split at h
  · assumption
  · cases h
theorem fn_raiseY {st : Stmt} (F : Fun K x qual st f f0) (S : FnScope N ps (defScope st))
    (hb : ∀ (cdv : Value) (A : Around) (outer : List Env) (s : Shared) (H : Hp) (E : XK) (B : Bs) (pn : List (Addr × Obj)), Room k (A.deeper (envOfC qual (defScope st) s.heap.objs.size f cdv)) ->
      DVs (cxT (cxOf (CX1 P w) P w K mg base N qual (defScope st) f cdv A outer s H E) pn (WX (cxOf (CX1 P w) P w K mg base N qual (defScope st) f cdv A outer s H E) pn fun _ => E)) B ca fd (fun _ => E) (defBody st) g) :
    FnOk P w K mg base (CX1 P w) (k + 1) f f0 ps (ySp ⟨K, w⟩ ca fd ps.length (mirY N ps.length g)) := by
  obtain ⟨oc, od, kV, doc, pm, an, cdv, ct, osl, rfl, lk, hcd⟩ := F.ex
  refine fn_of lk hcd S (fun vs H Q E h => ?_) fun A outer s H vs Q E hr h => ?_
  · obtain ⟨F, xs, o, _, hl, hp, _⟩ := h
    rw [<- paired_len hp]; exact hl
  · obtain ⟨F0, xs, q, fh, hl, hp, hm, k⟩ := h
    unfold mirY at hm
    rw [if_pos hl] at hm
    cases q1 : g (stE N (xs.map some)) with
    | none => rw [q1] at hm; cases hm
    | some q2 =>
      rw [q1] at hm
      cases hm
      exact ⟨fun _ σ H' => lVs ⟨K, w⟩ ⟨F0, H⟩ ca fd (fun _ => E) g σ H', pss_inW (E := fun _ => E) (fun pn => hb cdv A outer s H E ⟨F0, H⟩ pn hr) (exit_fn rfl), F0, _, q2, start_rep (ps := ps) fh hp, q1, fun dd σ' F' H' r' s' pd => k dd F' H' r'.ex pd⟩
end
inductive It where
  | con (x : Str) | pay | isx (b : Bool)
def itD (p : Option D) : It -> Option D
  | .con x => some (.str x)
  | .pay => p
  | .isx b => some (.bl b)
def tIt (ie : Nat) (ea : Addr) (dd : Option Addr) (fd : Str) : It -> TE
  | .con x => fun _ H Q => Q (.str x) H
  | .pay => fun σ H Q => σ[ie]? = some (some (.ref ea)) /\ ∃ dx v, dd = some dx /\ H dx = some (.xd [(fd, v)]) /\ Q v H
  | .isx b => fun σ H Q => σ[ie]? = some (some (.ref ea)) /\ (dd = none ∨ ∃ dx v, dd = some dx /\ H dx = some (.xd [(fd, v)])) /\ Q (.bl b) H
def ItOk (X : Cx) (C : Addr) (ie : Nat) (fd : Str) (e : Expr) (it : It) : Prop := ∀ ea oe dd, oe.cls = .ref C -> oe.dict = dd -> (∃ fs, oe.data = .fields fs) -> PE (cxE X ea [(ea, oe)]) e (tIt ie ea dd fd it)
section
variable {X : Cx} {B : Bs} {C HE fI M2 MC : Addr} {ca : Str -> Addr} {fd n x nm0 : Str} {ie i : Nat} {pos p p2 p3 pI pC : Pos} {e : Expr} {es : List Expr} {it : It} {its : List It}
theorem it_pay (xc : XC X.K C HE fI fd) (hi : X.N[ie]? = some n) (hl : X.env.scope.names.lookup n = some .local) (d3 : (n == ("__debug__" : Str)) = false := by decide +kernel) (d4 : (n == ("__classdict__" : Str)) = false := by decide +kernel)
    (hb : attributeBase (.Name n p) fd X.env (eval (.Name n p) X.env) = eval (.Name n p) X.env := by rfl) : ItOk X C ie fd (.Attribute (.Name n p) fd pos) .pay := fun ea oe dd hc hd hf => by
  cases dd with
  | none => exact fun _ _ _ _ _ _ ⟨_, _, _, z, _⟩ => nomatch z
  | some dx => exact pe_imp (pe_atE (X := cxE X ea [(ea, oe)]) xc (List.mem_append_left _ (.head _)) hc hd hf (pe_var hi (.inl hl) d3 d4) hb) fun σ H Q ⟨e1, dx', v, e2, e3, q⟩ => by cases e2; exact ⟨e1, v, e3, q⟩
theorem itD_ok {K : KW} {F H : Hp} {ea : Addr} {dd : Option Addr} {σ : St} {q : Option D} {d : D} {Q : VK} (h1 : σ[ie]? = some (some (.ref ea))) (pd : Pd K F H fd dd q) (hd : itD q it = some d) (k : ∀ v, Rp K F d v -> Q v H) : tIt ie ea dd fd it σ H Q := by
  cases it with
  | con x => cases hd; exact k _ rfl
  | isx b =>
    cases hd
    refine ⟨h1, ?_, k _ rfl⟩
    cases q with
    | none => exact .inl pd
    | some d => obtain ⟨dx, v, e1, e2, _⟩ := pd; exact .inr ⟨dx, v, e1, e2⟩
  | pay =>
    replace hd : q = some d := hd
    subst hd
    obtain ⟨dx, v, e1, e2, e3⟩ := pd
    exact ⟨h1, dx, v, e1, e2, k v e3⟩
def unset : Option (Option En) -> Bool
  | some none => true
  | _ => false
@[simp] theorem unset_no : unset (some none) = true := rfl
theorem unset_eq {o : Option (Option En)} (h : unset o = true) : o = some none := by
  unfold unset at h
  split at h
  · rfl
  · cases h
variable {gs : SD} {gx : EnvD -> Option (EnvD × Xv)} {body : List Stmt} {xM fx : Str} {pM hpos pF epos lpos : Pos}
end
section
variable {X : Cx} {B : Bs} {pos : Pos}
theorem pe_emp : PE X (.Dict [] [] pos) (fun _ H Q => ∀ p, H p = none -> Q (.ref p) (upd H p (.dK []))) := fun pins s σ H Q I h => by
  have big : (s.heap.objs.size == sysModules) = false := beq_eq_false_iff_ne.mpr (Ne.symm (Nat.ne_of_lt I.big))
  have z : ([] : List (Key × V)).length <= sizeLine := Nat.zero_le _
  exact wpAny_Dict_empty ⟨.ref s.heap.objs.size, _, I.laid (a := s.heap.objs.size) (o := .dK []) (t' := s.toks) (fun _ _ q => Heap.get?_push_of_some _ q) (Nat.le_refl _) ⟨z, big, [], .nil, Heap.DictOf.new _⟩, rfl, h _ (I.hok.fresh (Nat.le_refl _))⟩
theorem de_emp : DE X B (.Dict [] [] pos) (gc .emp) := pe_imp pe_emp fun σ H Q ⟨F, ρ, d, r, hg, k⟩ => by
  cases hg
  exact fun p hp => k _ (upd F p (.dK [])) _ (Ext.newF r.fh hp) ⟨p, rfl, upd_same⟩
end
section
end
section
variable {X : Cx} {pins : List (Addr × Obj)} {σ : St} {H : Hp} {s : Shared}
end
def forX (t : Tgt) (gb : SD) (gx : EnvD -> Option (EnvD × Xv)) : List D -> EnvD -> Option (EnvD × Xv)
  | [], _ => none
  | d :: ds, ρ => (asgD t d ρ).bind fun ρ1 => match gb ρ1 with
    | some (.next ρ2) => forX t gb gx ds ρ2
    | some (.cont ρ2) => forX t gb gx ds ρ2
    | some _ => none
    | none => gx ρ1
def yFor (t : Tgt) (gi : EnvD -> Option (List D)) (gb : SD) (gx : EnvD -> Option (EnvD × Xv)) : EnvD -> Option (EnvD × Xv) := fun ρ => (gi ρ).bind fun ds => forX t gb gx ds ρ
section
variable {X : Cx} {B : Bs} {ca : Str -> Addr} {fd : Str} {E : St -> XK} {pos : Pos} {tg iter : Expr} {body rest : List Stmt} {t : Tgt} {gi : EnvD -> Option (List D)} {gbd : SD} {gxb : EnvD -> Option (EnvD × Xv)}
theorem dvs_for (hp : PassesOwn (model X.prog X.w) X.A X.env X.xe) (hc : X.calm = true) (hi : DI X B (fun _ => B.H0) tg iter gi) (hg : PG X tg (tgT X.kw t)) (hb : DSs X.nox B body gbd) (hx : DVs X B ca fd E body gxb)
    (hs : ∀ x, foldedSetIterable iter X.env x = pure x := by intro _; rfl) : DVs X B ca fd E (.For tg iter body [] pos :: rest) (yFor t gi gbd gxb) := by
  have both : PSs X body (fun D σ H => lS X.kw B gbd D σ H ∨ lVs X.kw B ca fd E gxb σ H) := fun pins s σ H D I q => by
    rcases q with q | q
    · exact PSs.nox hb pins s σ H D I q
    · exact hx pins s σ H D I q
  refine pss_imp (pss_cons (ps_for hp hc hi hg both hs) (u := fun _ _ _ => False) fun _ _ _ _ _ _ z => z.elim) fun D σ H ⟨F, ρ, q, r, hg, k⟩ => ?_
  unfold yFor at hg
  cases q0 : gi ρ with
  | none => rw [q0] at hg; cases hg
  | some ds =>
    rw [q0] at hg
    have hg : forX t gbd gxb ds ρ = some q := hg
    refine ⟨F, ρ, ds, r, q0, fun J F1 H1 e1 jok => ?_⟩
    refine ⟨fun i m σ H => m = ds.length - i /\ i <= ds.length /\ ∃ F2 ρ2, Rep X.kw B F2 σ H ρ2 /\ Same F1 F2 /\ forX t gbd gxb (ds.drop i) ρ2 = some q, ⟨ds.length, rfl, Nat.zero_le _, F1, ρ, r.ext e1, Same.refl _, hg⟩, ?_⟩
    rintro i m σ2 H2 ⟨rfl, hi, F2, ρ2, r2, s2, h2⟩
    obtain ⟨j1, j2⟩ := jok F2 H2 s2 r2.fh r2.ex.hh i
    by_cases hlt : i < ds.length
    · obtain ⟨go, yl⟩ := j1 hlt
      refine .inr ⟨go, fun σ' H' => ∃ F3 ρ3, Rep X.kw B F3 σ' H' ρ3 /\ Same F1 F3 /\ forX t gbd gxb (ds.drop (i + 1)) ρ3 = some q, fun σ' H' ⟨F3, ρ3, r3, s3, h3⟩ => ⟨ds.length - (i + 1), by omega, rfl, hlt, F3, ρ3, r3, s3, h3⟩, fun x H3 hy => ?_⟩
      obtain ⟨F3, d, e3, hd, rd⟩ := yl x H3 hy
      have hdd : ds.drop i = d :: ds.drop (i + 1) := by
        rw [List.drop_eq_getElem_cons hlt]
        congr 1
        rw [List.getElem?_eq_getElem hlt] at hd
        exact Option.some.inj hd
      rw [hdd] at h2
      replace h2 : ((asgD t d ρ2).bind fun ρ1 => match gbd ρ1 with
        | some (.next ρ2) => forX t gbd gxb (ds.drop (i + 1)) ρ2
        | some (.cont ρ2) => forX t gbd gxb (ds.drop (i + 1)) ρ2
        | some _ => none
        | none => gxb ρ1) = some q := h2
      cases q1 : asgD t d ρ2 with
      | none => rw [q1] at h2; cases h2
      | some ρ3 =>
        rw [q1, Option.bind_some] at h2
        refine tg_ok (r2.ext e3) rd q1 fun σ' r4 _ => ?_
        cases q4 : gbd ρ3 with
        | none =>
          rw [q4] at h2
          exact .inr ⟨F3, ρ3, q, r4, h2, fun dd σ5 F5 H5 r5 s5 pd => k dd σ5 F5 H5 r5 (e1.ff.trans ((s2.trans e3.ff).trans s5)) pd⟩
        | some f1 =>
          rw [q4] at h2
          refine .inl ⟨F3, ρ3, f1, r4, q4, ?_⟩
          cases f1 with
          | next ρ5 => exact fun σ5 F5 H5 r5 s5 => ⟨F5, ρ5, r5, (s2.trans e3.ff).trans s5, h2⟩
          | cont ρ5 => exact fun σ5 F5 H5 r5 s5 => ⟨F5, ρ5, r5, (s2.trans e3.ff).trans s5, h2⟩
          | brk ρ5 => cases h2
          | ret o => cases h2
    · have hi' : i = ds.length := by omega
      have hdd : ds.drop i = [] := by rw [hi', List.drop_length]
      rw [hdd] at h2
      cases h2
end
end Dv
namespace L6
open PySem PySem.Spec L2 L3 L4
open PyProof.Rows hiding St
structure XC0 (K : PySem.W.Frag) (C : Addr) : Prop where
  cls : ∃ dd cd k0 k1 k2 k3 k5 bm, K.lookup C = some ⟨.type "type", dd, .cls cd, #[k0, k1, k2, k3, some (.builtin "ValueError.__new__"), k5]⟩ /\ cd.mro = .ref C :: bm /\ cd.hasDel = false /\
    PySem.W.tailIn K vB bm = true /\ PySem.W.nsOkIn K cd.ns = true /\ PySem.W.nsIn K cd.ns "__init__" = some none
  kp : PySem.W.keepIn K (.ref C) = true
section
variable {P : Program} {w : World} {A : Around} {E : Value -> Shared -> Prop} {H : Heap} {g : Array GenState} {dr : Drawn} {t : Nat} {os : OsState} {C N : Addr} {vs : List Value} {mN : Str -> Option Value}
variable {nm q : Str} {bs bm bb : List Value} {hd : Bool} {sn : List Str} {sb : List Value} {ab : Bool} {col : Option Bool} {dl : Option Addr} {k0 k1 k2 k3 k5 : Option Value} {b0 nid iid : String}
theorem type_call_bare (F : ExcBaseFacts b0 nid iid bb) (T : OwnTail H bb bm) {Q : Fin -> Shared -> Prop} (c : H.get? C = some (excClassObj nm q C N bs bm hd sn sb ab col dl k0 k1 k2 k3 k5 nid)) (n : H.Ns N mN) (i : mN "__init__" = none)
    (k : ∀ h' e t', H.objs.size <= e -> h'.get? e = some { cls := .ref C, data := .fields #[.ref t', .none, .none, .none, .bool false, .none] } -> (∀ b o, H.get? b = some o -> h'.get? b = some o) -> Q (.done (.ret (.ref e))) ⟨h', g, dr, t, os⟩) (few : vs.length <= sizeLine) :
    wpAny (model P w) A (Builtin.«type.__call__» ⟨.ref C :: vs, []⟩) Q E ⟨H, g, dr, t, os⟩ := by
  have me : (Value.ref C :: bm).contains (.ref C) = true := List.contains_iff_mem.mpr (.head _)
  have c' := made_old (C := C) (vs := vs) c
  have T' := T.keeps (h' := made H C vs) fun _ _ z => made_old z
  repeat
    first
      | with_reducible refine wpAny_loadPart_at c ?_
      | with_reducible refine wpAny_madeBy_exc c ?_
      | wp_step
  apply codeAny_call_builtin_code (Code.quiet_builtin _ F.quiet)
  apply wpAny_check_new_subT F T c
  refine codeAny_exc_new_subT F T c ?_ few
  show wpAny (model P w) A _ _ _ ⟨made H C vs, g, dr, t, os⟩
  unfold isInstance
  repeat
    first
      | with_reducible refine wpAny_loadPart_at made_new ?_
      | (with_reducible refine wpAny_isSubtype_exc c' ?_; rw [me])
      | wp_step
  show wpAny (model P w) A (typeLookup (.ref C) "__init__") _ _ _
  apply wpAny_typeLookup_tail c' (made_ns n) T' F.mroIs F.init.lookup
  rw [i]
  refine wpAny_holding (wpAny_bind (wpAny_of_eq (F.init.bind _) (wpAny_bind ?_)))
  refine base_init F T' c' made_new few fun h' e1 e2 => ?_
  wp_walk
  exact k h' _ _ (Nat.le_succ _) e1 fun b o z => e2 b o (Nat.ne_of_lt (Nat.lt_succ_of_lt (Heap.lt_size z))) (made_old z)
theorem call_bare (F : ExcBaseFacts b0 nid iid bb) (T : OwnTail H bb bm) {Q : Value -> Shared -> Prop} (c : H.get? C = some (excClassObj nm q C N bs bm hd sn sb ab col dl k0 k1 k2 k3 k5 nid)) (n : H.Ns N mN) (i : mN "__init__" = none)
    (k : ∀ h' e t', H.objs.size <= e -> h'.get? e = some { cls := .ref C, data := .fields #[.ref t', .none, .none, .none, .bool false, .none] } -> (∀ b o, H.get? b = some o -> h'.get? b = some o) -> Q (.ref e) ⟨h', g, dr, t, os⟩) (few : vs.length <= sizeLine) :
    wpAny (model P w) A (call (.ref C) vs) Q E ⟨H, g, dr, t, os⟩ := by
  have ty : (⟨H, g, dr, t, os⟩ : Shared).TypeIs (.ref C) "type" := ⟨_, c, rfl⟩
  have l1 := tc_lookup
  have l2 := tc_bind (.ref C)
  apply wpAny_call
  apply codeAny_of_tree
  show wpAny (model P w) _ (callAny (.ref C) ⟨vs, []⟩) _ _ _
  repeat
    any_goals first
      | assumption
      | with_reducible refine wpAny_loadPart_at c ?_
      | wp_step
  refine ⟨rfl, codeAny_call_builtin_at (Code.quiet_builtin _ (by decide +kernel)) entry_typeCall (wpAny_check_type_call_sub c ?_)⟩
  exact type_call_bare (few := few) F T c n i fun h' e t' l m s => k h' e t' l m s
end
theorem ns_none {K : PySem.W.Frag} {h : Heap} {N : Addr} {mg : Str -> Option Value} {n : Str} (X : K.In h) (G : h.Ns N mg) (e : PySem.W.nsIn K N n = some none) : mg n = none := by
  obtain ⟨o, es, ep, ho, hd, _, hf⟩ := G
  unfold PySem.W.nsIn at e
  split at e
  · rename_i q
    have := X _ _ q
    rw [ho] at this
    cases this
    cases hd
    split at e
    · cases e
    · rename_i he
      rw [<- hf]
      unfold nsFind findBy
      rw [<- Array.find?_toList, he]
      rfl
  · cases e
theorem XC0.at {K : PySem.W.Frag} {C : Addr} {h : Heap} (x : XC0 K C) (X : K.In h) : ∃ nm q N bs bm hdct sn sub ab col dd k0 k1 k2 k3 k5 mN, h.get? C = some (excClassObj nm q C N bs bm hdct sn sub ab col dd k0 k1 k2 k3 k5 "ValueError.__new__") /\ h.Ns N mN /\ mN "__init__" = none /\ OwnTail h vB bm := by
  obtain ⟨dd, cd, k0, k1, k2, k3, k5, bm, e, m, hdel, ht, hok, hi⟩ := x.cls
  obtain ⟨nm, bs, mro, ns, qn, hd, sn, sub, ab, col, del⟩ := cd
  dsimp only at m hdel hok hi
  subst m hdel
  have G : h.Ns ns (h.nsMap ns) := .of_isNs (PySem.W.isNs_of_in X hok)
  refine ⟨nm, qn, ns, bs, bm, hd, sn, sub, ab, col, dd, k0, k1, k2, k3, k5, _, X _ _ e, G, ?_, PySem.W.tail_of_in X ht⟩
  exact ns_none X G hi
section
variable {X : Cx} {pn : List (Addr × Obj)} {E : St -> XK} {C : Addr} {x : Str} {pos p cpos : Pos} {a : Expr} {t : TA}
def sRaise0 (C : Addr) (E : St -> XK) (t : TA) : TS := fun _ σ H => t σ H fun vs H1 => ∃ v, vs = [v] /\ E σ (.ref C) none H1
theorem ps_raise0 (hc : X.calm = true) (xc : XC0 X.K C) (hg : Gl X x) (hm : X.mg x = some (.ref C)) (ha : PA (cxT X pn (WX X pn E)) [a] t) (hdb : (x == ("__debug__" : Str)) = false := by decide)
    (he : starEach [a] X.env = (false, eval a X.env) :: starEach [] X.env := by rfl) (hpl : (backTo cpos (starEach [] X.env)).any (·.1) = false := by rfl) :
    PS (cxT X pn (WX X pn E)) (.Raise (some (.Call (.Name x p) [a] [] cpos)) none pos) (sRaise0 C E t) := by
  intro pins s σ H D I h
  have hh : X.A.handled = none := I.ok.hd hc
  obtain ⟨nm, qq, N', bs, bm, hdct, sn, sub, ab, col, dd, k0, k1, k2, k3, k5, mN, hC, hN, hi, T⟩ := xc.at I.ok.mod.kin
  have hbase : bm.contains (.type "BaseException") = true := T.hasType (by decide)
  rw [arm_exec_Raise]
  refine wpAny_bind (wpAny_standAt ?_)
  show wpAny _ _ (raiseStmt X.env (some (do let v <- eval (.Call (.Name x p) [a] [] cpos) X.env; standAt pos; pure v)) none) _ _ _
  refine raise_made (nm := nm) (q := qq) (C := C) (N := N') (bs := bs) (bm := bm) (hdct := hdct) (sn := sn) (sub := sub) (ab := ab) (col := col) (dd := dd) (k0 := k0) (k1 := k1) (k2 := k2) (k3 := k3) (k5 := k5) (newId := "ValueError.__new__") hbase hh (wpAny_bind ?_)
  refine wpAny_Call_Name_kw (ld_glob (X := cxT X pn (WX X pn E)) I hg hm ?_ hdb)
  refine PySem.W.callWith_K (h₀ := X.base) I.ok.mod.kin xc.kp (thn (ha cpos pins s σ H _ I h) fun us s1 ⟨vs, H1, I1, r1, v, ev, q⟩ => ⟨I1.kIn, ?_⟩) he hpl
  subst ev
  obtain ⟨nm', qq', N2, bs', bm', hdct', sn', sub', ab', col', dd', k0', k1', k2', k3', k5', mN', hC', hN', hi', T'⟩ := xc.at I1.kIn
  have hl1 : us.length <= sizeLine := by rw [<- r1.length, List.length_cons, List.length_nil, sizeLine_eq]; omega
  obtain ⟨hh1, g, d, tk, os⟩ := s1
  refine call_bare PySem.F.excBase_ValueError T' hC' hN' hi' (fun h' e t' l1 l2 l3 => wpAny_bind (wpAny_standAt (wpAny_pure ?_))) hl1
  have I2 : Inv (cxT X pn (WX X pn E)) pins σ (upd H1 e (ExO e C t' none)) ⟨h', g, d, tk, os⟩ := I1.laid (a := e) (o := ExO e C t' none) (h' := h') (t' := tk) (fun b o q => l3 b o q) l1 (exO_ok l2)
  have hne : H1 e = none := I1.hok.fresh l1
  have hee : upd H1 e (ExO e C t' none) e = some (ExO e C t' none) := upd_same
  refine ⟨e, t', none, rfl, I2.bk _ _ hC, l2, ?_⟩
  have I3 := inv_drop I2 hee
  have eq : del (upd H1 e (ExO e C t' none)) e = H1 := by
    funext b
    by_cases h1 : b = e
    · subst h1; rw [del_same, hne]
    · rw [del_ne h1, upd_ne h1]
  rw [eq] at I3
  exact ⟨σ, e, .ref C, none, .ref t', none, _, rfl, inv_outT (okT I3.ok) I3, ⟨_, _, l2, rfl, rfl, rfl, rfl, fun _ => rfl, fun _ z => (nomatch z)⟩, own_new (inv_outT (okT I1.ok) I1) l1 hne, fun _ z => (nomatch z), q⟩
end
end L6
namespace Dv
open PySem PySem.Spec L2 L3 L4 L6
open PyProof.Rows hiding St
section
variable {X : Cx} {pn : List (Addr × Obj)} {E : St -> XK} {B : Bs} {ca : Str -> Addr} {C : Addr} {fd x nm : Str} {pos p cpos : Pos} {a : Expr} {rest : List Stmt} {gd : EnvD -> Option D}
def yRaise0 (nm : Str) (gd : EnvD -> Option D) : EnvD -> Option (EnvD × Xv) := fun ρ => (gd ρ).map fun _ => (ρ, nm, none)
theorem dvs_raise0 (hC : ca nm = C) (hc : X.calm = true) (xc : XC0 X.K C) (hg : Gl X x) (hm : X.mg x = some (.ref C)) (ha : DE (cxT X pn (WX X pn E)).nox B a gd) (hdb : (x == ("__debug__" : Str)) = false := by decide +kernel)
    (he : starEach [a] X.env = (false, eval a X.env) :: starEach [] X.env := by rfl) (hpl : (backTo cpos (starEach [] X.env)).any (·.1) = false := by rfl) :
    DVs (cxT X pn (WX X pn E)) B ca fd E (.Raise (some (.Call (.Name x p) [a] [] cpos)) none pos :: rest) (yRaise0 nm gd) :=
  pss_imp (pss_cons (ps_raise0 hc xc hg hm (PA.nox (pa_cons ha pa_nil he)) hdb he hpl) (u := fun _ _ _ => False) fun _ _ _ _ _ _ z => z.elim) fun D σ H ⟨F, ρ, q, r, hg, k⟩ => by
    unfold yRaise0 at hg
    cases q1 : gd ρ with
    | none => rw [q1] at hg; cases hg
    | some d =>
      rw [q1] at hg
      cases hg
      refine ⟨F, ρ, d, r, q1, fun v F' H' e1 p1 => ⟨v, rfl, ?_⟩⟩
      have := k none σ F' _ (r.ext e1) e1.ff rfl
      rw [hC] at this
      exact this
end
end Dv
namespace L6
open PySem PySem.Spec L2 L3 L4
open PyProof.Rows hiding St
section
variable {prog : Program} {w : World} {A : Around} {E : Value -> Shared -> Prop}
theorem draw_lst {it l : Addr} {vs : Array Value} (ne : l ≠ it) : ∀ (n i : Nat) (s : Shared) (Q : List Value -> Shared -> Prop), s.heap.IsListIter it l i -> s.heap.IsList l vs -> i + n <= vs.size ->
    (∀ h', h'.IsListIter it l (i + n) -> Heap.SameBut it s.heap h' -> Q ((vs.toList.drop i).take n) { s with heap := h' }) -> wpAny (model prog w) A (draw (.ref it) n) Q E s
  | 0, i, s, Q, a, _, _, k => by
    show wpAny _ _ (pure []) Q E s
    refine wpAny_pure ?_
    have := k s.heap a (Heap.SameBut.refl ..)
    simpa using this
  | n + 1, i, s, Q, a, b, c, k => by
    have lt : i < vs.size := by omega
    show wpAny _ _ (pyNext (.ref it) >>= _) Q E s
    refine wpAny_bind (wpAny_pyNext_list_item a b (x := vs[i]) (by simp [lt]) fun h1 a1 s1 => wpAny_bind (wpAny_holding ?_))
    refine draw_lst ne n (i + 1) _ _ a1 (b.extBut s1.extBut ne) (by omega) fun h2 a2 s2 => wpAny_pure ?_
    have e : vs.toList.drop i = vs[i] :: vs.toList.drop (i + 1) := by simp [List.drop_eq_getElem_cons, lt]
    have := k h2 (by rw [show i + (n + 1) = i + 1 + n by omega]; exact a2) (s1.trans s2)
    rw [e, List.take_succ_cons] at this
    exact this
theorem assign_lst {env : Env} {es : List Expr} {x1} {pos : Pos} {l : Addr} {vs : Array Value} {s : Shared} {Q : Unit -> Shared -> Prop} (hh : A.handled = none) (hl : s.heap.IsList l vs) (hn : (assignEach es env).length = vs.size) (hst : (assignEach es env).findIdx? (·.1) = none)
    (k : ∀ h', Heap.ExtBut s.heap.objs.size s.heap h' -> wpAny (model prog w) A (assignInOrder ((assignEach es env).map (·.2)) vs.toList) Q E { s with heap := h' }) : wpAny (model prog w) A (assign (.Tuple es x1 pos) env (.ref l)) Q E s := by
  rw [arm_assign_Tuple]
  refine wpAny_bind (wpAny_standAt ?_)
  unfold unpack
  rw [hn, hst]
  refine wpAny_bind (wpAny_holding ?_)
  have ne : l ≠ s.heap.objs.size := by obtain ⟨o, ho, _⟩ := hl; exact Nat.ne_of_lt (Heap.lt_size ho)
  unfold unpackItems
  refine wpAny_bind ?_
  unfold notIterableAtAll
  refine wpAny_bind (wpAny_specialOf hl.typeIs PySem.F.slot_list_iter.lookup (wpAny_pure ?_))
  simp only [Bool.false_eq_true, if_false]
  refine wpAny_bind (wpAny_holding (wpAny_pyIter_list hl (wpAny_bind (wpAny_holding ?_))))
  refine draw_lst ne vs.size 0 _ _ ⟨_, Heap.get?_push_size _ rfl, rfl, rfl⟩ (hl.push _) (by omega) fun h1 a1 s1 => ?_
  rw [show List.take vs.size (List.drop 0 vs.toList) = vs.toList by rw [List.drop_zero]; exact List.take_of_length_le (by simp), if_neg (by simp)]
  refine wpAny_bind (wpAny_holding (wpAny_pyNext_list_end hh a1 ((hl.push _).extBut s1.extBut ne) (by simp) fun h2 e2 => ?_))
  simp only [Option.isSome_none, Bool.false_eq_true, if_false]
  exact wpAny_pure (k h2 fun b o hb e => e2 b o hb (s1.extBut b o hb (Heap.get?_push_of_some _ e)))
end
def gTupL (K : PySem.W.Frag) (n : Nat) (t : TGs) : TG := fun v σ H Q => ∃ a xs, v = .ref a /\ SqL K H a xs /\ xs.length = n /\ t xs σ H Q
theorem pg_tupL {X : Cx} {es : List Expr} {k : Nat} {t : TGs} {n : Nat} {pos : Pos} (hc : X.calm = true) (h : PGs X es t) (hn : (assignEach es X.env).length = n := by rfl) (hst : (assignEach es X.env).findIdx? (·.1) = none := by rfl) : PG X (.Tuple es k pos) (gTupL X.K n t) := by
  intro pins s σ H v u Q I r ⟨a, xs, e1, hq, hl, hw⟩
  subst e1
  cases r
  obtain ⟨its, rv, pl, hz⟩ := I.list hq
  refine assign_lst (I.ok.hd hc) pl.isList (by simp [hn, <- hl, rv.length]) hst fun h' hx => ?_
  have I1 : Inv X pins σ H { s with heap := h' } := I.kept (t' := s.toks) fun b o e => hx b o (Nat.ne_of_lt (Heap.lt_size e)) e
  exact h pins _ σ H xs _ Q I1 (by simpa using rv) hw
end L6
namespace Dv
open PySem PySem.Spec L2 L3 L4 L6
open PyProof.Rows hiding St
def sAsgL (is : List Nat) (g : EnvD -> Option D) : SD := fun ρ => (g ρ).bind fun d => match d with
  | .lst ds => if ds.length = is.length then some (.next (setMany is ds ρ)) else none
  | _ => none
theorem ds_asgL {X : Cx} {B : Bs} {tg e : Expr} {pos : Pos} {is : List Nat} {g : EnvD -> Option D} (he : DE X B e g) (hg : PG X tg (gTupL X.kw is.length (gNames is))) (hs : swapsWithSole [tg] e pos.line X.env = pure false := by rfl) (hw : swappedStores [tg] e X.env = pure none := by rfl)
    (h1 : (assignEach [tg] X.env).map (·.2) = [assign tg X.env] := by rfl) : DS X B (.Assign [tg] e pos) (sAsgL is g) :=
  ps_imp (ps_asg he hg hs hw h1) fun E σ H ⟨F, ρ, fl, r, hg, k⟩ => by
    unfold sAsgL at hg
    cases q : g ρ with
    | none => rw [q] at hg; cases hg
    | some d =>
      rw [q, Option.bind_some] at hg
      cases d with
      | lst ds =>
        replace hg : (if ds.length = is.length then some (Fl.next (setMany is ds ρ)) else none) = some fl := hg
        by_cases hl : ds.length = is.length
        · rw [if_pos hl] at hg
          cases hg
          refine ⟨F, ρ, _, r, q, fun v F1 H1 e1 p1 => ?_⟩
          obtain ⟨a, vs, rfl, h1, h2⟩ := p1
          exact ⟨a, vs, rfl, .of (e1.fh _ _ h1), by rw [<- h2.length]; exact hl, names_ok (all := is) (r.ext e1) h2 hl (fun i hi => hi) fun σ' r' _ => k σ' F1 H1 r' e1.ff⟩
        · rw [if_neg hl] at hg; cases hg
      | _ => cases hg
@[simp] theorem ev_sAsgL {is : List Nat} {g : EnvD -> Option D} {ρ : EnvD} : sAsgL is g ρ = (g ρ).bind fun d => match d with
  | .lst ds => if ds.length = is.length then some (.next (setMany is ds ρ)) else none
  | _ => none := rfl
end Dv
namespace L6
open PySem PySem.Spec L2 L3 L4
open PyProof.Rows hiding St
structure XN (K : PySem.W.Frag) (C M : Addr) : Prop where
  sub : PySem.W.subIn K (.ref C) (.ref M) = some false
  nt : PySem.W.instIn K (.ref M) (.type "tuple") = some false
  cls : (PySem.W.clsIn K M).isSome = true
  exc : PySem.W.subIn K (.ref M) (.type "BaseException") = some true
theorem matches_no {K : PySem.W.Frag} {e C M : Addr} {prog : Program} {w : World} {A : Around} {E : Value -> Shared -> Prop} {s : Shared} {Q : Bool -> Shared -> Prop} {oe : Obj} (xm : XN K C M) (X : K.In s.heap) (he : s.heap.get? e = some oe) (hc : oe.cls = .ref C) (h : Q false s) :
    wpAny (model prog w) A (excMatches (.ref e) (.ref M)) Q E s := by
  obtain ⟨hh, g, d, t, os⟩ := s
  have L0 := PySem.W.looks_instIn (M := model prog w) X xm.nt
  have L1 := typ_of (M := model prog w) he hc
  have L2 := PySem.W.looks_subIn (M := model prog w) X xm.sub
  have L3 := PySem.W.looks_subIn (M := model prog w) X xm.exc
  have L4 : PySem.W.Looks (model prog w) hh (isType (.ref M)) true := by
    have z0 := xm.cls
    unfold PySem.W.clsIn at z0
    split at z0
    · rename_i c' d' cd' sl' ho
      intro A' Q' E' s' k q
      unfold isType loadHead
      exact wpAny_bind (wpAny_loadPart (k _ _ (X _ _ ho)) (wpAny_pure q))
    · cases z0
  unfold excMatches isExcClass
  repeat (first | with_reducible refine L0.at ?_ | with_reducible refine L1.at ?_ | with_reducible refine L2.at ?_ | with_reducible refine L3.at ?_ | with_reducible refine L4.at ?_ | wp_step)
  all_goals first | exact h | skip
structure Hd where
  MC : Addr
  ie : Option Nat
  ts : Addr -> Addr -> Option Addr -> TS
def sWish (h : Hd) (D : Ends) (σ' : St) (C : Addr) (dd : Option Addr) (H' : Hp) : Prop := ∀ ea, H' ea = none -> match h.ie with
  | some i => h.ts ea C dd { nx := fun σ2 H2 => D.nx (σ2.set i none) H2, rt := fun _ _ => False } (σ'.set i (some (.ref ea))) H'
  | none => h.ts ea C dd { nx := D.nx, rt := fun _ _ => False } σ' H'
def hWish (K : PySem.W.Frag) : List Hd -> Ends -> St -> XK
  | [], _ => fun _ _ _ _ => False
  | h :: hs, D => fun σ' C' dd H' => ∃ C, C' = .ref C /\ ((XM K C h.MC /\ sWish h D σ' C dd H') ∨ (XN K C h.MC /\ hWish K hs D σ' C' dd H'))
inductive HsOk (X : Cx) : List ExceptHandler -> List Hd -> Prop
  | nil : HsOk X [] []
  | as {xM n : Str} {MC : Addr} {ie : Nat} {ts : Addr -> Addr -> Option Addr -> TS} {b0 : Stmt} {suite : List Stmt} {rest : List ExceptHandler} {hds : List Hd} {pM hpos : Pos} (hg : Gl X xM) (hm : X.mg xM = some (.ref MC)) (hdb : (xM == ("__debug__" : Str)) = false)
      (hi : X.N[ie]? = some n) (hl : X.env.scope.names.lookup n = some .local) (hs : ∀ ea oe C dd, oe.cls = .ref C -> oe.dict = dd -> (∃ fs, oe.data = .fields fs) -> PSs (cxE X ea [(ea, oe)]) (b0 :: suite) (ts ea C dd)) (hr : HsOk X rest hds) :
      HsOk X (.ExceptHandler (some (.Name xM pM)) (some n) (b0 :: suite) hpos :: rest) (⟨MC, some ie, ts⟩ :: hds)
  | no {xM : Str} {MC : Addr} {ts : Addr -> Addr -> Option Addr -> TS} {b0 : Stmt} {suite : List Stmt} {rest : List ExceptHandler} {hds : List Hd} {pM hpos : Pos} (hg : Gl X xM) (hm : X.mg xM = some (.ref MC)) (hdb : (xM == ("__debug__" : Str)) = false)
      (hs : ∀ ea oe C dd, oe.cls = .ref C -> oe.dict = dd -> (∃ fs, oe.data = .fields fs) -> PSs (cxE X ea [(ea, oe)]) (b0 :: suite) (ts ea C dd)) (hr : HsOk X rest hds) :
      HsOk X (.ExceptHandler (some (.Name xM pM)) none (b0 :: suite) hpos :: rest) (⟨MC, none, ts⟩ :: hds)
section
variable {X : Cx} {pins : List (Addr × Obj)}
theorem handle_ok (hN : X.N.Nodup) : ∀ {hs : List ExceptHandler} {hds : List Hd}, HsOk X hs hds -> ∀ {σ' : St} {H' : Hp} {s : Shared} {ea T : Addr} {C' a0 : Value} {dd : Option Addr} {D : Ends}, Inv X pins σ' H' s -> Trc s.heap ea C' dd a0 (some T) -> Own X pins H' ea -> Own X pins H' T ->
    hWish X.K hds D σ' C' dd H' -> wpAny (model X.prog X.w) X.A (handleBy (.ref ea) X.env hs) (SP X pins D) X.xe s
  | _, _, .nil, _, _, _, _, _, _, _, _, _, _, _, _, _, q => q.elim
  | _, _, @HsOk.as _ xM n MC ie ts b0 suite rest hds pM hpos hg hm hdb hi hl hs hr, σ', H', s, ea, T, C', a0, dd, D, I, t5, o1, o5, q => by
    obtain ⟨C, rfl, q⟩ := q
    have h3 : H' ea = none := o1.2.2.2.2.1
    have I' : Inv (cxE X ea []) pins σ' H' s := inv_in I fun p hp => nomatch hp
    obtain ⟨oe5, vs5, he5, hc5, hd5, hf5, _⟩ := id t5
    refine wpAny_handleBy_cons (codeAny_handlers_test (ld_glob (X := cxE X ea []) I' hg hm ?_ hdb)) (by intro z; cases z)
    rcases q with ⟨xm, q⟩ | ⟨xn, q⟩
    · refine matches_exc xm I.kIn he5 hc5 ?_
      refine codeAny_handlers_suite_as ?_
      refine flight_trc t5 fun h6 t6 k6 => ?_
      have I6 := inv_kpt I (k6.wide (S' := frs X.stack) fun b z => nomatch z) o1 fun t z => by cases z; exact o5
      refine store_ok2 (X := X) (v := .ref ea) I6 hN hi (.inl hl) rfl (fun s7 I7 sb => ?_) (.inr hl)
      obtain ⟨oe, vs, he, hc, hd, hf, _⟩ := id t6
      have he7 : s7.heap.get? ea = some oe := by
        obtain ⟨a, sb1, sb2⟩ := sb
        refine (sb1.2 ea ?_).trans he
        rintro rfl
        rcases sb2 with z | z
        · exact o1.2.1 z
        · exact o1.2.2.1 n ea z rfl
      have I7' : Inv (cxE X ea [(ea, oe)]) pins (σ'.set ie (some (.ref ea))) H' s7 := inv_in I7 fun p hp => by
        cases hp with
        | head => exact ⟨he7, h3, o1.2.1, o1.2.2.2.2.2, fun v z => by rw [hf] at z; cases z⟩
        | tail _ z => cases z
      refine wpAny_mono (hs ea oe C dd hc hd ⟨vs, hf⟩ pins s7 _ H' _ I7' (q ea h3)) (fun f s8 z => ?_) fun _ _ z => False.elim z
      cases f with
      | next =>
        obtain ⟨σ8, H8, I8, q8⟩ := z
        exact unbind_ok (inv_out I.ok I8) hN hi hl fun s9 I9 => ⟨_, _, I9, q8⟩
      | ret v => obtain ⟨_, _, _, _, _, z⟩ := z; exact z.elim
      | brk => obtain ⟨_, _, _, z⟩ := z; exact z.elim
      | cont => obtain ⟨_, _, _, z⟩ := z; exact z.elim
    · refine matches_no xn I.kIn he5 hc5 ?_
      exact handle_ok hN hr I t5 o1 o5 q
  | _, _, @HsOk.no _ xM MC ts b0 suite rest hds pM hpos hg hm hdb hs hr, σ', H', s, ea, T, C', a0, dd, D, I, t5, o1, o5, q => by
    obtain ⟨C, rfl, q⟩ := q
    have h3 : H' ea = none := o1.2.2.2.2.1
    have I' : Inv (cxE X ea []) pins σ' H' s := inv_in I fun p hp => nomatch hp
    obtain ⟨oe5, vs5, he5, hc5, hd5, hf5, _⟩ := id t5
    refine wpAny_handleBy_cons (codeAny_handlers_test (ld_glob (X := cxE X ea []) I' hg hm ?_ hdb)) (by intro z; cases z)
    rcases q with ⟨xm, q⟩ | ⟨xn, q⟩
    · refine matches_exc xm I.kIn he5 hc5 ?_
      refine codeAny_handlers_suite ?_
      refine flight_trc t5 fun h6 t6 k6 => ?_
      have I6 := inv_kpt I (k6.wide (S' := frs X.stack) fun b z => nomatch z) o1 fun t z => by cases z; exact o5
      obtain ⟨oe, vs, he, hc, hd, hf, _⟩ := id t6
      have I7' : Inv (cxE X ea [(ea, oe)]) pins σ' H' { s with heap := h6 } := inv_in I6 fun p hp => by
        cases hp with
        | head => exact ⟨he, h3, o1.2.1, o1.2.2.2.2.2, fun v z => by rw [hf] at z; cases z⟩
        | tail _ z => cases z
      refine wpAny_mono (hs ea oe C dd hc hd ⟨vs, hf⟩ pins _ _ H' _ I7' (q ea h3)) (fun f s8 z => ?_) fun _ _ z => False.elim z
      cases f with
      | next =>
        obtain ⟨σ8, H8, I8, q8⟩ := z
        exact ⟨_, _, inv_out I.ok I8, q8⟩
      | ret v => obtain ⟨_, _, _, _, _, z⟩ := z; exact z.elim
      | brk => obtain ⟨_, _, _, z⟩ := z; exact z.elim
      | cont => obtain ⟨_, _, _, z⟩ := z; exact z.elim
    · refine matches_no xn I.kIn he5 hc5 ?_
      exact handle_ok hN hr I t5 o1 o5 q
end
section
variable {X : Cx} {t1 : TS} {t2 : (St -> XK) -> TS} {body : List Stmt} {h0 : ExceptHandler} {hs : List ExceptHandler} {hds : List Hd} {pos : Pos}
theorem ps_tryH (h1 : PSs X.nox body t1) (h2 : ∀ pn (E : St -> XK), PSs (cxT X pn (WX X pn E)) body (t2 E)) (hN : X.N.Nodup) (hstk : X.stack = X.env :: X.outer /\ X.env.frame = some X.env.locals) (hh : HsOk X (h0 :: hs) hds) :
    PS X (.Try body (h0 :: hs) [] [] pos) (fun D σ H => t1 D σ H ∨ t2 (hWish X.K hds D) { nx := fun _ _ => False, rt := fun _ _ => False } σ H) := by
  intro pins s σ H D I h
  rcases h with h | h
  · refine wpAny_Try_except (wpAny_mono (h1 pins s σ H D (I.wish _) h) (fun f s1 q => ?_) fun _ _ z => False.elim z)
    have q := SP.unwish q
    cases f with
    | next => exact wpAny_execs_nil q
    | ret v => exact q
    | brk => exact q
    | cont => exact q
  refine wpAny_Try_except (wpAny_mono (h2 pins _ [] s σ H _ (inv_inT I) h) (fun f s1 q => ?_) fun ex s' hx => ?_)
  · cases f with
    | next => obtain ⟨_, _, _, z⟩ := q; exact z.elim
    | ret v => obtain ⟨_, _, _, _, _, z⟩ := q; exact z.elim
    | brk => obtain ⟨_, _, _, z⟩ := q; exact z.elim
    | cont => obtain ⟨_, _, _, z⟩ := q; exact z.elim
  obtain ⟨σ', ea, C', dd, a0, T, H', rfl, I2, ht, o1, o2, q⟩ := hx
  have hfr : X.A.frames = some (X.env :: X.outer) := by rw [I.ok.frames, hstk.1]
  have hff : s'.heap.FunFrames X.base (X.env :: X.outer) := by have := I2.stack; rw [hstk.1] at this; exact this
  refine noteF hfr hff hstk.2 ht fun h4 T5 t4 l4 k4 => ?_
  rw [<- hstk.1] at k4
  have I4 := inv_kpt I2 k4 o1 o2
  have o5 : Own X pins H' T5 := by
    rcases l4 with l | l
    · exact own_new I2 l (I2.hok.fresh l)
    · exact o2 _ l
  refine flightF (s := { s' with heap := h4 }) t4 fun h5 _ t5 k5 => ?_
  have t5 := t5 rfl
  have I5 := inv_kpt (s := { s' with heap := h4 }) I4 (k5.wide (S' := frs X.stack) fun b z => nomatch z) o1 fun t z => by cases z; exact o5
  exact handle_ok hN hh I5 t5 o1 o5 q
end
end L6
namespace Dv
open PySem PySem.Spec L2 L3 L4 L6
open PyProof.Rows hiding St
section
variable {X : Cx} {B : Bs} {ca : Str -> Addr} {fd : Str} {E : St -> XK} {pos : Pos} {tg iter elt : Expr} {ifs : List Expr} {scope : Scope} {own : List Str} {cap : List (Str × Nat)} {t : Tgt} {tc : EnvD -> Option Bool} {α : Type} {post : Post α} {ge : EnvD -> Option α} {gx : EnvD -> Option Xv} {gi : EnvD -> Option (List D)}
end
end Dv
namespace L6
open PySem PySem.Spec L2 L3 L4
open PyProof.Rows hiding St
def ExcAt (e C : Addr) (h : Heap) : Prop := ∃ ox od, PySem.W.InstAt h e ox C od
structure XI (K : PySem.W.Frag) (C : Addr) : Prop where
  sub : PySem.W.subIn K (.ref C) (.type "BaseException") = some true
  cls : (PySem.W.clsIn K C).isSome = true
  ga : PySem.W.findIn K (.ref C) "__getattribute__" = some (some (.builtin "BaseException.__getattribute__"))
  gt : PySem.W.findIn K (.ref C) "__getattr__" = some none
  ca : PySem.W.findIn K (.ref C) "__class__" = some (some (.builtin "object.__class__"))
  cg : PySem.W.specialIn K (.builtin "object.__class__") "__get__" = some (some (.builtin "getset_descriptor.__get__"))
  ct : PySem.W.takesIn K (.builtin "object.__class__") = some true
  mo : PySem.W.mroIn K C (.type "object") = some true
section
variable {prog : Program} {w : World} {A : Around} {E : Value -> Shared -> Prop} {K : PySem.W.Frag} {x C : Addr}
theorem cls_exc_entry {ox : Obj} {od : Option Obj} {tk : Tok} {R : Result -> Shared -> Prop} {s : Shared} (xi : XI K C) (X : K.In s.heap) (I : PySem.W.InstAt s.heap x ox C od) (hq : R (.ok (.ret (.ref C))) s) :
    wpAny (model prog w) A.in1 (Builtin.«object.__getattribute__» ⟨[.ref x, .str "__class__" tk], []⟩)
      (fun fin s' => match fin with | .done f => R (.ok f) s' | .again c' => c'.quiet = true /\ codeAny (model prog w) A c' R s') (fun e s' => R (.error e) s') s := by
  have hf : PySem.W.findObj K C od "__class__" = some (.bind (.builtin "getset_descriptor.__get__") (.builtin "object.__class__")) := by
    obtain ⟨cd, hc⟩ := Option.isSome_iff_exists.mp xi.cls
    unfold PySem.W.findObj
    rw [hc, Option.bind_some, xi.ca, Option.bind_some]
    simp [xi.cg, xi.ct]
  obtain ⟨h, g, d, t, os⟩ := s
  have L0 := I.type (M := model prog w)
  have L1 := PySem.W.looks_find (M := model prog w) X I hf
  unfold Builtin.«object.__getattribute__»
  refine wpAny_bind (wpAny_pure (wpAny_bind (wpAny_pure (wpAny_bind (L0.at (wpAny_bind (L1.at ?_)))))))
  show wpAny _ _ (holding [_] (call _ [_, .ref x, .ref C]) >>= ret) _ _ _
  exact wpAny_bind (wpAny_holding (wpAny_call (PySem.W.class_get (s := ⟨h, g, d, t, os⟩) X I xi.mo (wpAny_pure hq))))
theorem cls_exc_call {ox : Obj} {od : Option Obj} {tk : Tok} {R : Result -> Shared -> Prop} {s : Shared} (xi : XI K C) (X : K.In s.heap) (I : PySem.W.InstAt s.heap x ox C od) (hq : R (.ok (.ret (.ref C))) s) :
    codeAny (model prog w) A (.call (.builtin "BaseException.__getattribute__") ⟨[.ref x, .str "__class__" tk], []⟩) R s := by
  refine codeAny_call_builtin PySem.F.attrBase_ValueError.ga.plain PySem.F.entry_bexc_ga ?_
  refine @PySem.W.check_slot (model prog w) _ _ s "BaseException.__getattribute__" "BaseException" "__getattribute__" (.ref x) [.str "__class__" tk] [] _ (by decide +kernel) (by decide +kernel) (I.type.andThen (PySem.W.looks_subIn X xi.sub)) (PySem.F.args_bexc_ga (.ref x) (.str "__class__" tk)) ?_
  exact cls_exc_entry xi X I hq
theorem cls_exc {ox : Obj} {od : Option Obj} {Q : Option Value -> Shared -> Prop} {s : Shared} (xi : XI K C) (X : K.In s.heap) (I : PySem.W.InstAt s.heap x ox C od) (hq : Q (some (.ref C)) { s with toks := s.toks + 1 }) :
    wpAny (model prog w) A (getAttr? (.ref x) "__class__") Q E s := by
  obtain ⟨h, g, d, t, os⟩ := s
  have L0 := I.type (M := model prog w)
  have L1 := PySem.W.looks_findIn (M := model prog w) X xi.ga
  have L2 := PySem.W.looks_findIn (M := model prog w) X xi.gt
  have f3 := PySem.F.attrBase_ValueError.ga.bind (.ref x)
  have hv2 : handedOut (Value.ref C) = pure (Value.ref C) := rfl
  have hx2 : (Value.builtin "BaseException.__getattribute__" == Value.builtin "object.__getattribute__") = false := by decide +kernel
  have hx1 : (onTheHeap (Value.ref C) && Value.builtin "BaseException.__getattribute__" == Value.builtin "object.__getattribute__") = false := by rw [hx2]; rfl
  unfold getAttr? getAttrBy? getAttrBy
  repeat (any_goals (first | assumption | with_reducible refine L0.at ?_ | with_reducible refine L1.at ?_ | with_reducible refine L2.at ?_ | rw [hv2] | wp_step))
  refine cls_exc_call (s := ⟨h, g, d, t + 1, os⟩) xi X I ?_
  repeat (any_goals (first | assumption | rw [hv2] | wp_step))
theorem kitx_exc (xi : XI K C) : PySem.W.KitX K (.ref x) (.ref C) (ExcAt x C) where
  ty := fun _ _ _ ⟨_, _, I⟩ => I.type
  it := fun _ _ X _ => by
    obtain ⟨cd, hc⟩ := Option.isSome_iff_exists.mp xi.cls
    unfold PySem.W.clsIn at hc
    split at hc
    · rename_i ho
      intro A' Q' E' s' k q
      unfold isType loadHead
      exact wpAny_bind (wpAny_loadPart (k _ _ (X _ _ ho)) (wpAny_pure q))
    · cases hc
  ne := fun h tp dd its n sl X htp => by
    obtain ⟨cd, hc⟩ := Option.isSome_iff_exists.mp xi.cls
    refine Bool.eq_false_iff.mpr fun q => ?_
    cases (Value.ref.inj (beq_iff_eq.mp q) : C = tp)
    unfold PySem.W.clsIn at hc
    split at hc
    · rename_i ho
      cases (X _ _ ho).symm.trans htp
    · cases hc
  ca := fun X ⟨_, _, I⟩ k => cls_exc xi X I k
theorem isb_exc {s : Shared} {Q : Value -> Shared -> Prop} {c : Value} {b : Bool} (xi : XI K C) (X : K.In s.heap) (I : ExcAt x C s.heap) (z : PySem.W.kitOne K (.ref C) c = some b) (h : ∀ tk, Q (.bool b) { s with toks := tk }) :
    wpAny (model prog w) A (call (.builtin "isinstance") [.ref x, c]) Q E s :=
  PySem.W.kia_one (kitx_exc xi) X I z (fun z => nomatch z) h
end
def rIsB (ea : Addr) (dd : Option Addr) (fd : Str) (M2 : Addr) (b : Bool) : List V -> Hp -> VK -> Prop := fun xs H Q => xs = [.ref ea, .ref M2] /\ (dd = none ∨ ∃ dx v, dd = some dx /\ H dx = some (.xd [(fd, v)])) /\ Q (.bl b) H
theorem call_isB {X : Cx} {C ea M2 : Addr} {oe : Obj} {fd : Str} {dd : Option Addr} {b : Bool} (xi : XI X.K C) (hpn : (ea, oe) ∈ X.pn) (hc : oe.cls = .ref C) (hd : oe.dict = dd) (hf : ∃ fs, oe.data = .fields fs) (z : PySem.W.kitOne X.K (.ref C) (.ref M2) = some b) : CallR X (.builtin "isinstance") (rIsB ea dd fd M2 b) := by
  intro pins s σ H xs us Q I r h
  obtain ⟨rfl, hdd, q⟩ := h
  cases r with
  | @cons _ u1 _ _ r1 r2 =>
  cases r2 with
  | @cons _ u2 _ _ r3 r4 =>
  cases r4
  obtain rfl : u1 = Value.ref ea := r1
  obtain rfl : u2 = Value.ref M2 := r3
  obtain ⟨fs, hf⟩ := hf
  have he := (I.pin (ea, oe) (List.mem_append_left _ hpn)).1
  have hn : PySem.W.notCls oe = true := by unfold PySem.W.notCls; rw [hf]
  have IA : ExcAt ea C s.heap := by
    rcases hdd with e0 | ⟨dx, v, e1, e2⟩
    · exact ⟨oe, none, he, hc, hn, by rw [hd, e0]; trivial⟩
    · obtain ⟨mA, hm, _⟩ := I.hok dx _ e2
      obtain ⟨o, _, _, ho, _⟩ := hm.ns
      exact ⟨oe, some o, he, hc, hn, by rw [hd, e1]; exact ho⟩
  exact isb_exc xi I.kIn IA z fun tk => ⟨.bl b, H, I.tok tk, rfl, q⟩
end L6
namespace Dv
open PySem PySem.Spec L2 L3 L4 L6
open PyProof.Rows hiding St
section
variable {X : Cx} {elts : List Expr} {tk : Nat} {tpos p pos : Pos} {a : Expr} {B : Bs} {hb : Hp -> Hp} {gi : EnvD -> Option (List D)}
end
structure Exc0 (K : PySem.W.Frag) (mg : Str -> Option Value) (CT HE : Addr) (xT xH : Str) (oth : List (Str × Bool)) : Prop where
  xc : XC0 K CT
  xi : XI K CT
  xm : XM K CT CT
  xmH : XM K CT HE
  z : PySem.W.kitOne K (.ref CT) (.ref HE) = some true
  zT : PySem.W.kitOne K (.ref CT) (.ref CT) = some true
  mT : mg xT = some (.ref CT)
  mH : mg xH = some (.ref HE)
  oth : ∀ q ∈ oth, ∃ M, mg q.1 = some (.ref M) /\ PySem.W.kitOne K (.ref CT) (.ref M) = some q.2
theorem kit_false {K : PySem.W.Frag} {C M : Addr} (h0 : PySem.W.subIn K (.ref C) (.ref C) = some true) (h1 : PySem.W.isClsIn K M = true) (h2 : PySem.W.typeIn K (.ref M) = some (.type "type")) (h3 : PySem.W.subIn K (.ref C) (.ref M) = some false) : PySem.W.kitOne K (.ref C) (.ref M) = some false := by
  unfold PySem.W.kitOne
  split
  · rename_i q
    cases (Value.ref.inj (beq_iff_eq.mp q) : C = M)
    rw [h0] at h3
    cases h3
  · show (if ((PySem.W.clsIn K M).isSome && PySem.W.typeIn K (.ref M) == some (.type "type")) = true then PySem.W.subIn K (.ref C) (.ref M) else none) = some false
    have h1 : (PySem.W.clsIn K M).isSome = true := h1
    rw [h1, h2, if_pos (by decide)]
    exact h3
section
variable {X : Cx} {B : Bs} {ca : Str -> Addr} {fd : Str} {E : St -> XK} {pos : Pos} {tg iter elt : Expr} {ifs : List Expr} {scope : Scope} {own : List Str} {cap : List (Str × Nat)} {t : Tgt} {tc : EnvD -> Option Bool} {ge : EnvD -> Option D} {gx : EnvD -> Option Xv} {gi : EnvD -> Option (List D)}
end
end Dv
namespace Dv
open PySem PySem.Spec L2 L3 L4
open PyProof.Rows hiding St
section
variable {X : Cx} {B : Bs} {a e o : Expr} {es : List Expr} {pos p apos cpos : Pos} {g go : EnvD -> Option D} {gs : EnvD -> Option (List D)}
def FEW : Nat := 1000000000000
def numT (i : Int) : Str := Str.ofString (toString i)
theorem few_log {i : Int} (h : i.natAbs < FEW) : i.natAbs.log2 < 1920 := by
  by_cases z : i.natAbs = 0
  · rw [z]; decide
  · exact (Nat.log2_lt z).mpr (Nat.lt_trans h (Nat.lt_of_lt_of_le (by decide : FEW < 2 ^ 40) (Nat.pow_le_pow_right (by decide) (by decide))))
def fStr : List D -> Option D
  | [.int i] => if i.natAbs < FEW then some (.str (numT i)) else none
  | _ => none
theorem call_str1 : CallR X (.type "str") (fun xs H Q => ∃ i, xs = [.int i] /\ i.natAbs < FEW /\ Q (.str (numT i)) H) := by
  intro pins s σ H xs us Q I r h
  obtain ⟨i, rfl, hi, q⟩ := h
  obtain ⟨u, rfl, t, rfl⟩ := vals1 r
  exact PySem.P.str_of_int (few_log hi) ⟨.str (numT i), H, I.tok _, ⟨_, rfl⟩, q⟩
theorem ok_str {K : KW} : CallOk K (fun xs H Q => ∃ i, xs = [.int i] /\ i.natAbs < FEW /\ Q (.str (numT i)) H) (pE K) fStr := by
  intro F H vs ds d Q s hp e k
  unfold fStr at e
  split at e
  · split at e
    · rename_i hi
      cases e
      obtain ⟨v, rfl, r⟩ := pair1 hp
      cases r.int
      exact ⟨_, rfl, hi, k _ F H (.refl s) rfl⟩
    · cases e
  · cases e
theorem de_strc (hg : Gl X "str") (hm : X.mg "str" = none) (ha : DRs X B [a] gs) (he : starEach [a] X.env = (false, eval a X.env) :: starEach [] X.env := by rfl) (hpl : (backTo pos (starEach [] X.env)).any (·.1) = false := by rfl) :
    DE X B (.Call (.Name "str" p) [a] [] pos) (gB fStr gs) := de_callTy call_str1 ok_str hg hm (by decide +kernel) ha (by decide) (by decide) he hpl
end
section
variable {ρ : EnvD} {g go : EnvD -> Option D} {gs : EnvD -> Option (List D)} {gj : EnvD -> Option Str}
@[simp] theorem ev_fStr {i : Int} : fStr [.int i] = if i.natAbs < FEW then some (.str (numT i)) else none := rfl
end
section
variable {X : Cx} {B : Bs} {tg iter : Expr} {pos : Pos} {gi : EnvD -> Option (List D)}
end
section
variable {K : KW} {B : Bs} {F H : Hp} {σ : St} {ρ : EnvD}
end
section
variable {X : Cx} {B : Bs} {tg e ck c re : Expr} {es : List Expr} {x y nm : Str} {pos p2 p3 p4 p5 ip rp apos cpos : Pos} {id : String} {r : V -> List V -> Hp -> VK -> Prop} {f : List D -> List D -> Option (List D)} {gs : EnvD -> Option (List D)} {dd : List D} {gt : EnvD -> Option Bool} {ge : EnvD -> Option D}
end
end Dv
namespace Dv
open PySem PySem.Spec L2 L3 L4 L6
open PyProof.Rows hiding St
section
variable {X : Cx} {B : Bs} {e a b o : Expr} {es : List Expr} {pos p cpos : Pos} {gts : EnvD -> Option (List OT)} {gp : EnvD -> Option (List Nat)} {ga gb : EnvD -> Option D}
end
section
variable {X : Cx} {B : Bs} {ca : Str -> Addr} {fd x : Str} {id : String} {E : St -> XK} {pos p : Pos} {e : Expr} {es : List Expr} {k n : Nat} {g : EnvD -> Option Xv} {gd : EnvD -> Option D} {gx : EnvD -> Option En} {m : List En -> Option En}
end
theorem all_nil {α : Type} {P : α -> Prop} : ∀ q ∈ ([] : List α), P q := fun _ h => nomatch h
theorem all_cons {α : Type} {P : α -> Prop} {a : α} {l : List α} (h : P a) (r : ∀ q ∈ l, P q) : ∀ q ∈ a :: l, P q := List.forall_mem_cons.mpr ⟨h, r⟩
theorem Pd.ext {K : KW} {F H F' H' : Hp} {fd : Str} {dd : Option Addr} {q : Option D} (e : Ext F H F' H') (h : Pd K F H fd dd q) : Pd K F' H' fd dd q := by
  cases q with
  | none => exact h
  | some d => obtain ⟨dx, v, e1, e2, e3⟩ := h; exact ⟨dx, v, e1, e.hh _ _ e2, e3.mono e.ff⟩
def hasE (ie : Option Nat) (ea : Addr) (σ : St) : Prop := match ie with
  | some k => σ[k]? = some (some (.ref ea))
  | none => True
abbrev Jt := Option D -> Option D
def jtsD (q : Option D) : List Jt -> Option (List D)
  | [] => some []
  | f :: r => (f q).bind fun d => (jtsD q r).map (d :: ·)
def lCJ (K : KW) (ie : Option Nat) (ea : Addr) (dd : Option Addr) (fd : Str) (f : Jt) : TE := fun σ H Q => hasE ie ea σ /\ ∃ F q d, Same F H /\ Pd K F H fd dd q /\ f q = some d /\ ∀ v F' H', Ext F H F' H' -> Rp K F' d v -> Q v H'
def lCJs (K : KW) (ie : Option Nat) (ea : Addr) (dd : Option Addr) (fd : Str) (fs : List Jt) : TA := fun σ H Q => hasE ie ea σ /\ ∃ F q ds, Same F H /\ Pd K F H fd dd q /\ jtsD q fs = some ds /\ ∀ vs F' H', Ext F H F' H' -> Rps K F' ds vs -> Q vs H'
def JtOk (X : Cx) (C : Addr) (ie : Option Nat) (fd : Str) (e : Expr) (f : Jt) : Prop := ∀ ea oe dd, oe.cls = .ref C -> oe.dict = dd -> (∃ fs, oe.data = .fields fs) -> PE (cxE X ea [(ea, oe)]) e (lCJ X.kw ie ea dd fd f)
def JtsOk (X : Cx) (C : Addr) (ie : Option Nat) (fd : Str) (es : List Expr) (fs : List Jt) : Prop := ∀ ea oe dd, oe.cls = .ref C -> oe.dict = dd -> (∃ fs, oe.data = .fields fs) -> PA (cxE X ea [(ea, oe)]) es (lCJs X.kw ie ea dd fd fs)
def jPay : Jt := fun q => q
section
variable {X : Cx} {B : Bs} {C HE fI M2 MC : Addr} {ca : Str -> Addr} {fd n x y : Str} {ie : Option Nat} {i k : Nat} {pos p p2 p3 pI pC pB lpos : Pos} {e : Expr} {es : List Expr} {f : Jt} {fs : List Jt} {b : Bool}
theorem jt_it {it : It} (h : ItOk X C k fd e it) : JtOk X C (some k) fd e (fun q => itD q it) := fun ea oe dd h1 h2 h3 => pe_imp (h ea oe dd h1 h2 h3) fun σ H Q ⟨h1, F, q, d, s, pd, hf, kk⟩ => itD_ok h1 pd hf fun v hv => kk v F H (.refl s) hv
theorem jt_pay (h : ItOk X C k fd e .pay) : JtOk X C (some k) fd e jPay := jt_it h
end
structure Cl where
  ie : Option Nat
  its : List (Str × List Jt)
inductive CsOk (X : Cx) (ca : Str -> Addr) (fd : Str) (i : Nat) : List ExceptHandler -> List Cl -> Prop
  | nil : CsOk X ca fd i [] []
  | as {xM n fx : Str} {MC : Addr} {ie : Nat} {its : List (Str × List Jt)} {es : List Expr} {rest : List ExceptHandler} {cls : List Cl} {pM hpos pF lpos epos : Pos} (hg : Gl X xM) (hm : X.mg xM = some (.ref MC)) (hdb : (xM == ("__debug__" : Str)) = false)
      (hie : X.N[ie]? = some n) (hl : X.env.scope.names.lookup n = some .local) (hit : ∀ q ∈ its, JtsOk X (ca q.1) (some ie) fd es q.2) (hx : ∀ q ∈ its, XM X.K (ca q.1) MC) (hn : ∀ c ∈ cls, ∀ q ∈ c.its, XN X.K (ca q.1) MC)
      (hi : X.N[i]? = some fx) (hiL : Loc X.env.scope fx) (hif : X.fn fx = true ∨ X.env.scope.names.lookup fx = some .local) (hs : swapsWith (.List es lpos) (some (.Name fx pF)) epos.line X.env = pure false) (hr : CsOk X ca fd i rest cls) :
      CsOk X ca fd i (.ExceptHandler (some (.Name xM pM)) (some n) [.Assign [.Name fx pF] (.List es lpos) epos] hpos :: rest) (⟨some ie, its⟩ :: cls)
  | no {xM fx : Str} {MC : Addr} {its : List (Str × List Jt)} {es : List Expr} {rest : List ExceptHandler} {cls : List Cl} {pM hpos pF lpos epos : Pos} (hg : Gl X xM) (hm : X.mg xM = some (.ref MC)) (hdb : (xM == ("__debug__" : Str)) = false)
      (hit : ∀ q ∈ its, JtsOk X (ca q.1) none fd es q.2) (hx : ∀ q ∈ its, XM X.K (ca q.1) MC) (hn : ∀ c ∈ cls, ∀ q ∈ c.its, XN X.K (ca q.1) MC)
      (hi : X.N[i]? = some fx) (hiL : Loc X.env.scope fx) (hif : X.fn fx = true ∨ X.env.scope.names.lookup fx = some .local) (hs : swapsWith (.List es lpos) (some (.Name fx pF)) epos.line X.env = pure false) (hr : CsOk X ca fd i rest cls) :
      CsOk X ca fd i (.ExceptHandler (some (.Name xM pM)) none [.Assign [.Name fx pF] (.List es lpos) epos] hpos :: rest) (⟨none, its⟩ :: cls)
theorem lookup_mem {α : Type} {nm : Str} {v : α} : ∀ {l : List (Str × α)}, l.lookup nm = some v -> (nm, v) ∈ l
  | [], h => by cases h
  | (a, b) :: r, h => by
    rw [List.lookup_cons] at h
    split at h
    · rename_i q
      cases h
      have : nm = a := eq_of_beq q
      subst this
      exact .head _
    · exact .tail _ (lookup_mem h)
section
variable {X : Cx} {B : Bs} {ca : Str -> Addr} {fd : Str} {i : Nat}
variable {gs : SD} {gx : EnvD -> Option (EnvD × Xv)} {body : List Stmt} {h0 : ExceptHandler} {hs : List ExceptHandler} {cls : List Cl} {pos : Pos}
end
def ExI (P : Program) (w : World) (K : PySem.W.Frag) (mg : Str -> Option Value) (base : Heap) (C HE : Addr) (fd : Str) : Prop := ∃ fI, XC K C HE fI fd /\ ∃ f0 ps, FnOk P w K mg base CX0 1 fI f0 ps (xiSp C fd) /\ Binds K f0 ps []
end Dv
namespace L6
open PySem PySem.Spec L2 L3 L4
open PyProof.Rows hiding St
def calmA (A : Around) : Around := { A with handled := none }
def cxK (X : Cx) (pn : List (Addr × Obj)) : Cx := { X with calm := false, pn := pn, xe := fun _ _ => False }
def PinOk (outer : List Env) (s : Shared) (H : Hp) (pn : List (Addr × Obj)) : Prop := ∀ p ∈ pn, s.heap.get? p.1 = some p.2 /\ H p.1 = none /\ p.1 ∉ frs outer /\ ∀ v, p.2.data ≠ .cell v
abbrev SpE := List (Addr × Obj) -> List V -> Hp -> VK -> Prop
structure FnE (P : Program) (w : World) (K : PySem.W.Frag) (mg : Str -> Option Value) (base : Heap) (k : Nat) (f : Addr) (fd : FuncData) (ps : List Str) (sp : SpE) : Prop where
  len : ∀ pn vs H Q, sp pn vs H Q -> vs.length = ps.length
  run : ∀ (A : Around) (outer : List Env) (s : Shared) (H : Hp) (args : Args) (us : List Value) (vs : List V) (Q : VK) (pn : List (Addr × Obj)), Room k (calmA A) -> Env0 P w K mg base A outer s H -> BindsTo s fd args (ps.zip us) -> Vals vs us -> PinOk outer s H pn -> sp pn vs H Q ->
    codeAny (model P w) A (.call (.ref f) args) (CR CX0 outer P w H s Q (fun _ _ _ => False)) s
section
variable {P : Program} {w : World} {K : PySem.W.Frag} {mg : Str -> Option Value} {base : Heap} {N ps : List Str} {qual name : Str} {scope : Scope} {f : Addr} {cdv : Value} {A : Around} {outer : List Env} {s s1 : Shared} {H : Hp} {us : List Value} {vs : List V} {E : XK} {pn : List (Addr × Obj)}
theorem inv_startE (S : FnScope N ps scope) (e0 : Env0 P w K mg base A outer s H) (hl : vs.length = ps.length) (r : Vals vs us)
    (x : InCallC s s.heap.objs.size (bindL (envOfC qual scope s.heap.objs.size f cdv).kindOf (ps.zip us) fun _ => none) (cellsFrom (s.heap.objs.size + 1) scope.names []) (bindC (envOfC qual scope s.heap.objs.size f cdv).kindOf (ps.zip us) fun _ => none) s1) (hp : PinOk outer s H pn) :
    Inv (cxK (cxOf CX0 P w K mg base N qual scope f cdv A outer s H E) pn) [] (start N vs) H s1 := by
  have e1 : Env0 P w K mg base (calmA A) outer s H := ⟨e0.frames, e0.mod, e0.bs, e0.bsz, e0.funs, e0.frf, e0.hok, e0.bare⟩
  have I := inv_start (CX := CX0) (E := E) (A := calmA A) S rfl e1 hl r x
  have ok := I.ok
  refine ⟨⟨ok.mod, ok.kind, ok.glob, ok.blt, ok.above, ok.inj, ok.has, ok.cab, fun z => (nomatch z), Around.frames_deeper e0.frames, ok.stk, ok.exf, ok.bs, ok.bsz, ok.noex, ok.exfs, ok.funs, ok.frf⟩, I.os, I.bare, I.base, I.loc, I.cell, I.free, I.freeC, fun p hq => ?_, I.hok, I.len⟩
  have hq : p ∈ pn := by
    have : p ∈ pn ++ [] := hq
    rwa [List.append_nil] at this
  obtain ⟨h1, h2, h3, h4⟩ := hp p hq
  exact ⟨I.base.keep p.1 p.2 h1 h2 h3 (fun z => (nomatch z)), h2, Nat.ne_of_lt (Heap.lt_size h1), h3, h4⟩
theorem fn_ofE {params : Arguments} {body : List Stmt} {k : Nat} {dV kV doc pm ct oc : Value} {an od : Option Addr} {osl : Array (Option Value)} {sp : SpE} (lk : K.lookup f = some ⟨oc, od, .func (PySem.W.fnOf name qual params body scope dV kV doc pm an cdv ct), osl⟩) (hcd : PySem.W.codeIn K cdv qual = true) (S : FnScope N ps scope)
    (len : ∀ pn vs H Q, sp pn vs H Q -> vs.length = ps.length)
    (hbody : ∀ (A : Around) (outer : List Env) (s : Shared) (H : Hp) (vs : List V) (Q : VK) (pn : List (Addr × Obj)), Room k ((calmA A).deeper (envOfC qual scope s.heap.objs.size f cdv)) -> sp pn vs H Q ->
      ∃ t, PSs (cxK (cxOf CX0 P w K mg base N qual scope f cdv A outer s H (fun _ _ _ => False)) pn) body t /\ t { nx := fun _ H' => Q .non H', rt := Q } (start N vs) H) :
    FnE P w K mg base (k + 1) f (PySem.W.fnOf name qual params body scope dV kV doc pm an cdv ct) ps sp := by
  refine ⟨len, fun A outer s H args us vs Q pn hr e0 hb r hp hsp => ?_⟩
  have hl := len _ _ _ _ hsp
  have KX : K.In s.heap := e0.mod.kin.keeps fun b o e => (e0.bs b o e).1
  have hkind : ∀ y ∈ ps.zip us, scope.names.lookup y.1 = some .local ∨ (scope.names.lookup y.1 = some .cell /\ ((cellsFrom (s.heap.objs.size + 1) scope.names []).lookup y.1).isSome = true) := fun ⟨n, v⟩ hy => by
    rcases S.par n (List.of_mem_zip hy).1 with q | q
    · exact .inl q
    · exact .inr ⟨q, PySem.W.cellsFrom_some _ _ _ (.inl q)⟩
  have hd : A.depth < recursionLimit := hr.depth
  refine codeAny_call_function hd (KX _ _ lk) rfl S.co S.gen rfl (PySem.W.codeRec_of KX hcd) (hb _ _ _ _ ?_)
  refine wpAny_newFunctionEnv_cells S.kind hkind fun env he s1 x => ?_
  subst he
  refine ⟨(e0.mod.nolimit.keeps fun b o e => (e0.bs b o e).1).keeps x.toInCall.keep, codeAny_func ?_⟩
  obtain ⟨t, ht, hq⟩ := hbody A outer s H vs Q pn (hr.deeper _) hsp
  refine wpAny_mono (ht [] s1 (start N vs) H _ (inv_startE S e0 hl r x hp) hq) (fun fl s' hs => ?_) fun e s' z => z.elim
  cases fl with
  | ret u =>
    obtain ⟨v, σ', H', J, rv, q⟩ := hs
    exact ⟨v, H', J.os, J.bare, J.base, J.hok, rv, q⟩
  | next =>
    obtain ⟨σ', H', J, q⟩ := hs
    exact ⟨V.non, H', J.os, J.bare, J.base, J.hok, rfl, q⟩
  | brk => obtain ⟨_, _, _, q⟩ := hs; exact q.elim
  | cont => obtain ⟨_, _, _, q⟩ := hs; exact q.elim
end
section
variable {X : Cx} {k : Nat} {f : Addr} {fd : FuncData} {ps : List Str} {sp : SpE} {x : Str} {p pos : Pos} {e : Expr} {es : List Expr} {t : TA} {ea : Addr} {oe : Obj}
theorem pe_callE (F : FnE X.prog X.w X.K X.mg X.base k f fd ps sp) (hr : Room k X.A) (hg : Gl X x) (hm : X.mg x = some (.ref f)) (hk : PySem.W.keepIn X.K (.ref f) = true) (hb : Binds X.K fd ps []) (hc : ∀ v, oe.data ≠ .cell v)
    (ha : PA (cxE X ea [(ea, oe)]) (e :: es) t) (hdb : (x == ("__debug__" : Str)) = false := by decide +kernel) (he : starEach (e :: es) X.env = (false, eval e X.env) :: starEach es X.env := by rfl) (hpl : (backTo pos (starEach es X.env)).any (·.1) = false := by rfl) :
    PE (cxE X ea [(ea, oe)]) (.Call (.Name x p) (e :: es) [] pos) (fun σ H Q => t σ H fun vs H1 => sp [(ea, oe)] vs H1 Q) := by
  intro pins s σ H Q I h
  refine wpAny_Call_Name_kw (ld_glob (X := cxE X ea [(ea, oe)]) I hg hm ?_ hdb)
  refine PySem.W.callWith_K (h₀ := X.base) I.ok.mod.kin hk (thn (ha pos pins s σ H _ I h) fun us s1 ⟨vs, H1, I1, r, q⟩ => ⟨I1.kIn, ?_⟩) he hpl
  have hl : (us ++ ([] : List Value)).length = ps.length := by rw [List.append_nil, <- r.length]; exact F.len _ _ _ _ q
  have pk : PinOk (cxE X ea [(ea, oe)]).stack s1 H1 [(ea, oe)] := fun p hp => by
    rw [List.mem_singleton.mp hp]
    obtain ⟨h1, h2, h3, h4, h5⟩ := I1.pin (ea, oe) (List.mem_append_left _ (List.mem_append_left _ (.head _)))
    exact ⟨h1, h2, fun z => (List.mem_cons.mp (I1.stkSub ea z)).elim h3 h4, h5⟩
  have hr' : Room k (calmA (cxE X ea [(ea, oe)]).A) := ⟨rfl, hr.dp, hr.un⟩
  refine wpAny_call (codeAny_mono (F.run (cxE X ea [(ea, oe)]).A (cxE X ea [(ea, oe)]).stack s1 H1 ⟨us, []⟩ us vs Q [(ea, oe)] hr' I1.env0 (by have := hb s1 us I1.kIn hl; rw [List.append_nil] at this; exact this) r pk q) fun r s' hq => ?_)
  cases r with
  | error e => exact False.elim hq
  | ok fl =>
    cases fl with
    | ret u => exact I1.after hq
    | next => exact False.elim hq
    | brk => exact False.elim hq
    | cont => exact False.elim hq
end
def rIsT (ea : Addr) (dd : Option Addr) (fd : Str) (T : String) (b : Bool) : List V -> Hp -> VK -> Prop := fun xs H Q => xs = [.ref ea, .ty T] /\ (dd = none ∨ ∃ dx v, dd = some dx /\ H dx = some (.xd [(fd, v)])) /\ Q (.bl b) H
theorem call_isT {X : Cx} {C ea : Addr} {T : String} {oe : Obj} {fd : Str} {dd : Option Addr} {b : Bool} (xi : XI X.K C) (hpn : (ea, oe) ∈ X.pn) (hc : oe.cls = .ref C) (hd : oe.dict = dd) (hf : ∃ fs, oe.data = .fields fs) (z : PySem.W.kitOne X.K (.ref C) (.type T) = some b) : CallR X (.builtin "isinstance") (rIsT ea dd fd T b) := by
  intro pins s σ H xs us Q I r h
  obtain ⟨rfl, hdd, q⟩ := h
  cases r with
  | @cons _ u1 _ _ r1 r2 =>
  cases r2 with
  | @cons _ u2 _ _ r3 r4 =>
  cases r4
  obtain rfl : u1 = Value.ref ea := r1
  obtain rfl : u2 = Value.type T := r3
  obtain ⟨fs, hf⟩ := hf
  have he := (I.pin (ea, oe) (List.mem_append_left _ hpn)).1
  have hn : PySem.W.notCls oe = true := by unfold PySem.W.notCls; rw [hf]
  have IA : ExcAt ea C s.heap := by
    rcases hdd with e0 | ⟨dx, v, e1, e2⟩
    · exact ⟨oe, none, he, hc, hn, by rw [hd, e0]; trivial⟩
    · obtain ⟨mA, hm, _⟩ := I.hok dx _ e2
      obtain ⟨o, _, _, ho, _⟩ := hm.ns
      exact ⟨oe, some o, he, hc, hn, by rw [hd, e1]; exact ho⟩
  exact isb_exc xi I.kIn IA z fun tk => ⟨.bl b, H, I.tok tk, rfl, q⟩
end L6
namespace Dv
open PySem PySem.Spec L2 L3 L4 L6
open PyProof.Rows hiding St
def kitF (K : PySem.W.Frag) (C : Addr) (isx : Nat -> Bool) : Nat -> List Value -> Prop
  | _, [] => True
  | j, v :: vs => PySem.W.kitOne K (.ref C) v = some (isx j) /\ kitF K C isx (j + 1) vs
theorem kit_nil {K : PySem.W.Frag} {C : Addr} {isx : Nat -> Bool} {j : Nat} : kitF K C isx j [] := trivial
theorem kit_cons {K : PySem.W.Frag} {C : Addr} {isx : Nat -> Bool} {j : Nat} {v : Value} {vs : List Value} (h : PySem.W.kitOne K (.ref C) v = some (isx j)) (r : kitF K C isx (j + 1) vs) : kitF K C isx j (v :: vs) := ⟨h, r⟩
structure ExAt (K : PySem.W.Frag) (fd : Str) (ea C : Addr) (oe : Obj) (H : Hp) : Prop where
  xi : XI K C
  cls : oe.cls = .ref C
  flds : ∃ fs, oe.data = .fields fs
  dic : oe.dict = none ∨ ∃ dx v, oe.dict = some dx /\ H dx = some (.xd [(fd, v)])
def eSp (K : KW) (fd : Str) (tab : List Value) (m : Addr -> (Nat -> Bool) -> List En -> Option En) : SpE := fun pn vs H Q =>
  ∃ ea oe C isx F d, pn = [(ea, oe)] /\ vs = [.ref ea] /\ ExAt K fd ea C oe H /\ kitF K C isx 0 tab /\ Same F H /\ m ea isx [.exn ea] = some (.val d) /\ ∀ v F' H', Ext F H F' H' -> Rp K F' d v -> Q v H'
structure Ex1 (P : Program) (w : World) (K : PySem.W.Frag) (mg : Str -> Option Value) (base : Heap) (fd : Str) (tab : List Value) (x : Str) (k : Nat) (m : Addr -> (Nat -> Bool) -> List En -> Option En) : Prop where
  ex : ∃ f f0 ps, FnE P w K mg base k f f0 ps (eSp ⟨K, w⟩ fd tab m) /\ mg x = some (.ref f) /\ PySem.W.keepIn K (.ref f) = true /\ Binds K f0 ps []
section
variable {P : Program} {w : World} {K : PySem.W.Frag} {mg : Str -> Option Value} {base : Heap}
theorem fn_exc {x qual : Str} {st : Stmt} {f : Addr} {f0 : FuncData} {N : List Str} {y fd : Str} {k : Nat} {tab : List Value} {g : Addr -> (Nat -> Bool) -> SD} (F : Fun K x qual st f f0) (S : FnScope N [y] (defScope st))
    (hb : ∀ (cdv : Value) (A : Around) (outer : List Env) (s : Shared) (H : Hp) (E : XK) (B : Bs) (ea C : Addr) (oe : Obj) (isx : Nat -> Bool), Room k ((calmA A).deeper (envOfC qual (defScope st) s.heap.objs.size f cdv)) -> ExAt K fd ea C oe B.H0 -> kitF K C isx 0 tab ->
      DSs (cxK (cxOf CX0 P w K mg base N qual (defScope st) f cdv A outer s H E) [(ea, oe)]) B (defBody st) (g ea isx)) :
    FnE P w K mg base (k + 1) f f0 [y] (eSp ⟨K, w⟩ fd tab (fun ea isx => mir N (g ea isx))) := by
  obtain ⟨oc, od, kV, doc, pm, an, cdv, ct, osl, rfl, lk, hcd⟩ := F.ex
  refine fn_ofE lk hcd S (fun pn vs H Q h => ?_) fun A outer s H vs Q pn hr h => ?_
  · obtain ⟨ea, oe, C, isx, F0, d, _, rfl, _⟩ := h; rfl
  · obtain ⟨ea, oe, C, isx, F0, d, rfl, rfl, hx, hk, fh, hm, q⟩ := h
    have hd := hb cdv A outer s H (fun _ _ _ => False) ⟨F0, H⟩ ea C oe isx hr hx hk
    refine ⟨_, hd, ?_⟩
    have r0 := start_rep (K := K) (w := w) (N := N) (ps := [y]) (xs := [.exn ea]) (vs := [.ref ea]) fh (.cons rfl .nil)
    replace hm : outO (g ea isx (stE N ([En.exn ea].map some))) = some (.val d) := hm
    cases q1 : g ea isx (stE N ([En.exn ea].map some)) with
    | none => rw [q1] at hm; cases hm
    | some fl =>
      rw [q1] at hm
      refine ⟨F0, _, fl, r0, q1, ?_⟩
      cases fl with
      | next ρ' => cases hm; exact fun σ' F' H' r' s' => q _ F' H' r'.ex rfl
      | ret o => cases hm; exact fun v F' H' e' r' => q v F' H' e' r'
      | brk ρ' => cases hm
      | cont ρ' => cases hm
end
section
variable {X : Cx} {B : Bs} {C ea M2 : Addr} {oe : Obj} {fd n x : Str} {i : Nat} {p2 p3 pI pC : Pos} {b : Bool} {T : String}
def gIsE (i : Nat) (ea : Addr) (b : Bool) : EnvD -> Option D := fun ρ => match ρ[i]? with
  | some (some (.exn a)) => if a = ea then some (.bl b) else none
  | _ => none
@[simp] theorem ev_gIsE {ρ : EnvD} : gIsE i ea b ρ = match ρ[i]? with | some (some (.exn a)) => if a = ea then some (.bl b) else none | _ => none := rfl
theorem gIsE_ok {K : KW} {F : Hp} {σ : St} {H : Hp} {ρ : EnvD} {d : D} (r : Rep K B F σ H ρ) (h : gIsE i ea b ρ = some d) : d = .bl b /\ σ[i]? = some (some (.ref ea)) := by
  unfold gIsE at h
  split at h
  · rename_i a q
    split at h
    · rename_i e
      cases h
      subst e
      obtain ⟨v, h1, h2⟩ := r.ents i _ q
      cases (show v = V.ref a from h2)
      exact ⟨rfl, h1⟩
    · cases h
  · cases h
theorem de_isE (hx : ExAt X.K fd ea C oe B.H0) (hpn : (ea, oe) ∈ X.pn) (z : PySem.W.kitOne X.K (.ref C) (.ref M2) = some b) (hgI : Gl X "isinstance") (hmI : X.mg "isinstance" = none) (hg : Gl X x) (hm : X.mg x = some (.ref M2)) (hv : PE X (.Name n p2) (tVar i)) (hdb : (x == ("__debug__" : Str)) = false := by decide +kernel)
    (he : starEach [.Name n p2, .Name x p3] X.env = (false, eval (.Name n p2) X.env) :: starEach [.Name x p3] X.env := by rfl) (he2 : starEach [.Name x p3] X.env = (false, eval (.Name x p3) X.env) :: starEach [] X.env := by rfl) (hpl : (backTo pC (starEach [.Name x p3] X.env)).any (·.1) = false := by rfl) :
    DE X B (.Call (.Name "isinstance" pI) [.Name n p2, .Name x p3] [] pC) (gIsE i ea b) :=
  pe_imp (pe_callB (call_isB (fd := fd) (b := b) hx.xi hpn hx.cls rfl hx.flds z) hgI hmI (by decide +kernel) (pa_cons hv (pa_cons (pe_glob hg hm (v := .ref M2) rfl hdb) pa_nil he2) he) (by decide) (by decide) he hpl) fun σ H Q ⟨F, ρ, d, r, hgd, k⟩ => by
    obtain ⟨rfl, e1⟩ := gIsE_ok r hgd
    refine ⟨_, e1, rfl, ?_, k _ F H (.refl r.fh) rfl⟩
    rcases hx.dic with e | ⟨dx, v, e2, e3⟩
    · exact .inl e
    · exact .inr ⟨dx, v, e2, r.ex.hh _ _ e3⟩
theorem de_isT (hx : ExAt X.K fd ea C oe B.H0) (hpn : (ea, oe) ∈ X.pn) (z : PySem.W.kitOne X.K (.ref C) (.type T) = some b) (hgI : Gl X "isinstance") (hmI : X.mg "isinstance" = none) (hgT : Gl X x) (hmT : X.mg x = none) (hvT : bootBuiltins x = some (.type T)) (hv : PE X (.Name n p2) (tVar i)) (hnT : x ≠ "__name__" := by decide) (hdT : (x == ("__debug__" : Str)) = false := by decide)
    (he : starEach [.Name n p2, .Name x p3] X.env = (false, eval (.Name n p2) X.env) :: starEach [.Name x p3] X.env := by rfl) (he2 : starEach [.Name x p3] X.env = (false, eval (.Name x p3) X.env) :: starEach [] X.env := by rfl) (hpl : (backTo pC (starEach [.Name x p3] X.env)).any (·.1) = false := by rfl) :
    DE X B (.Call (.Name "isinstance" pI) [.Name n p2, .Name x p3] [] pC) (gIsE i ea b) :=
  pe_imp (pe_callB (call_isT (fd := fd) (b := b) hx.xi hpn hx.cls rfl hx.flds z) hgI hmI (by decide +kernel) (pa_cons hv (pa_cons (pe_bltn hgT hmT hvT (v := .ty T) rfl hnT hdT) pa_nil he2) he) (by decide) (by decide) he hpl) fun σ H Q ⟨F, ρ, d, r, hgd, k⟩ => by
    obtain ⟨rfl, e1⟩ := gIsE_ok r hgd
    refine ⟨_, e1, rfl, ?_, k _ F H (.refl r.fh) rfl⟩
    rcases hx.dic with e | ⟨dx, v, e2, e3⟩
    · exact .inl e
    · exact .inr ⟨dx, v, e2, r.ex.hh _ _ e3⟩
end
def jCall (m : Addr -> (Nat -> Bool) -> List En -> Option En) (isx : Nat -> Bool) : Jt := fun _ => match m 0 isx [.exn 0] with
  | some (.val d) => some d
  | _ => none
section
variable {X : Cx} {C : Addr} {fd n x : Str} {k kk : Nat} {p p2 pos : Pos} {tab : List Value} {m : Addr -> (Nat -> Bool) -> List En -> Option En} {isx : Nat -> Bool}
theorem jt_call (h : Ex1 X.prog X.w X.K X.mg X.base fd tab x kk m) (ind : ∀ ea isx, m ea isx [.exn ea] = m 0 isx [.exn 0]) (xi : XI X.K C) (hz : kitF X.K C isx 0 tab) (hr : Room kk X.A) (hg : Gl X x) (hi : X.N[k]? = some n) (hl : X.env.scope.names.lookup n = some .local)
    (d3 : (n == ("__debug__" : Str)) = false := by decide +kernel) (d4 : (n == ("__classdict__" : Str)) = false := by decide +kernel) (hdb : (x == ("__debug__" : Str)) = false := by decide +kernel)
    (he : starEach [.Name n p2] X.env = (false, eval (.Name n p2) X.env) :: starEach [] X.env := by rfl) (hpl : (backTo pos (starEach [] X.env)).any (·.1) = false := by rfl) :
    JtOk X C (some k) fd (.Call (.Name x p) [.Name n p2] [] pos) (jCall m isx) := fun ea oe dd hc hd hf => by
  obtain ⟨f, f0, ps, F, hm, hk, hb⟩ := h.ex
  refine pe_imp (pe_callE F hr hg hm hk hb (fun v z => by obtain ⟨fs, hf⟩ := hf; rw [hf] at z; cases z) (pa_cons (pe_var (X := cxE X ea [(ea, oe)]) hi (.inl hl) d3 d4) pa_nil he) hdb he hpl) fun σ H Q ⟨hh, F0, q, d, s, pd, hfq, kq⟩ => ?_
  refine ⟨_, hh, ?_⟩
  unfold jCall at hfq
  cases q1 : m 0 isx [.exn 0] with
  | none => rw [q1] at hfq; cases hfq
  | some o =>
    rw [q1] at hfq
    have hdic : oe.dict = none ∨ ∃ dx v, oe.dict = some dx /\ H dx = some (.xd [(fd, v)]) := by
      rw [hd]
      cases q with
      | none => exact .inl pd
      | some d => obtain ⟨dx, v, e1, e2, _⟩ := pd; exact .inr ⟨dx, v, e1, e2⟩
    cases o with
    | val d' =>
      cases hfq
      exact ⟨ea, oe, C, isx, F0, d, rfl, rfl, ⟨xi, hc, hf, hdic⟩, hz, s, (ind ea isx).trans q1, fun v F' H' e p => kq v F' H' e p⟩
    | _ => cases hfq
end
theorem op_leS {X : Cx} : OpR X (compareOp .LtE) (fun x y H Q => ∃ i j, x = .str i /\ y = .str j /\ Q (.bl (!decide (j.cps.toList < i.cps.toList))) H) := by
  intro pins s σ H x y v u Q I rx ry h
  obtain ⟨i, j, rfl, rfl, q⟩ := h
  obtain ⟨t, rfl⟩ := rx
  obtain ⟨t', rfl⟩ := ry
  exact PySem.P.le_str ⟨.bl _, H, I, rfl, q⟩
def fLeT : D -> D -> Option D
  | .str i, .str j => some (.bl (!decide (j.cps.toList < i.cps.toList)))
  | _, _ => none
@[simp] theorem ev_fLeT {i j : Str} : fLeT (.str i) (.str j) = some (.bl (!decide (j.cps.toList < i.cps.toList))) := rfl
theorem ok_leS {K : KW} : OkR K (fun x y H Q => ∃ i j, x = .str i /\ y = .str j /\ Q (.bl (!decide (j.cps.toList < i.cps.toList))) H) (pE K) fLeT := by
  intro F H x y dx dy d Q s rx ry e k
  unfold fLeT at e
  split at e
  · rename_i i j
    cases e
    have hx := rx.one fun _ z => (nomatch z)
    have hy := ry.one fun _ z => (nomatch z)
    exact ⟨i, j, hx, hy, k _ F H (.refl s) rfl⟩
  · cases e
def isxL (l : List Bool) : Nat -> Bool := fun j => l.getD j false
section
variable {X : Cx} {B : Bs} {ca : Str -> Addr} {fd : Str} {E : St -> XK} {pos cpos : Pos} {a b c : Expr} {sa sb rest : List Stmt} {op : CmpOp} {g : EnvD -> Option Xv}
def DVt (X : Cx) (B : Bs) (ca : Str -> Addr) (fd : Str) (E : St -> XK) (c : Expr) (g : EnvD -> Option Xv) : Prop := PT X c fun σ H _ => lV X.kw B ca fd E g σ H
theorem dvt_cmpL (h : DV X B ca fd E a g) (hm : behindInMarks op b = false) : DVt X B ca fd E (.Compare a [op] [b] cpos) g :=
  pt_imp (pt_cmpR (r := fun _ _ _ _ => False) (fun _ _ _ _ _ _ _ _ _ _ _ _ z => z.elim) h pe_no hm) fun σ H Q q => q
theorem dvs_ifT (h : DVt X B ca fd E c g) : DVs X B ca fd E (.If c sa sb pos :: rest) (yE g) :=
  pss_imp (pss_cons (ps_if h (t := fun _ _ _ => False) (u := fun _ _ _ => False) (fun _ _ _ _ _ _ z => z.elim) (fun _ _ _ _ _ _ z => z.elim)) (u := fun _ _ _ => False) fun _ _ _ _ _ _ z => z.elim) fun _ _ _ q => yE_ok q
end
inductive SuV (X : Cx) (C : Addr) (ie : Option Nat) (fd : Str) : List Stmt -> List (Nat × Jt) -> Prop
  | nil : SuV X C ie fd [] []
  | cons {fx : Str} {e : Expr} {f : Jt} {i : Nat} {pF epos : Pos} {rest : List Stmt} {l : List (Nat × Jt)} (h : JtOk X C ie fd e f) (hi : X.N[i]? = some fx) (hiL : Loc X.env.scope fx) (hif : X.fn fx = true ∨ X.env.scope.names.lookup fx = some .local)
      (hs : swapsWith e (some (.Name fx pF)) epos.line X.env = pure false) (hr : SuV X C ie fd rest l) : SuV X C ie fd (.Assign [.Name fx pF] e epos :: rest) ((i, f) :: l)
def tSu (K : KW) (ie : Option Nat) (ea : Addr) (dd : Option Addr) (fd : Str) : List (Nat × Jt) -> TS
  | [] => fun D σ H => D.nx σ H
  | (i, f) :: l => fun D σ H => lCJ K ie ea dd fd f σ H fun v H1 => tSu K ie ea dd fd l D (σ.set i (some v)) H1
section
variable {X : Cx} {B : Bs} {C : Addr} {ie : Option Nat} {ca : Str -> Addr} {fd : Str}
theorem su_ps (hN : X.N.Nodup) : ∀ {suite : List Stmt} {l : List (Nat × Jt)}, SuV X C ie fd suite l -> ∀ ea oe dd, oe.cls = .ref C -> oe.dict = dd -> (∃ fs, oe.data = .fields fs) -> PSs (cxE X ea [(ea, oe)]) suite (tSu X.kw ie ea dd fd l)
  | _, _, .nil, _, _, _, _, _, _ => pss_imp pss_nil fun _ _ _ q => q
  | _, _, .cons h hi hiL hif hs hr, ea, oe, dd, h1, h2, h3 => pss_imp (pss_cons (ps_set (X := cxE X ea [(ea, oe)]) hN hi hiL (h ea oe dd h1 h2 h3) hs hif) (su_ps hN hr ea oe dd h1 h2 h3)) fun _ _ _ q => q
def suD (q : Option D) (ie : Option Nat) : List (Nat × Jt) -> EnvD -> Option EnvD
  | [], ρ => some ρ
  | (i, f) :: l, ρ => if ie ≠ some i then (f q).bind fun d => suD q ie l (ρ.set i (some (.val d))) else none
theorem su_ok {K : KW} {ea : Addr} {dd : Option Addr} {q : Option D} {D : Ends} : ∀ {l : List (Nat × Jt)} {ρ ρ' : EnvD} {σ : St} {F H : Hp}, Rep K B F σ H ρ -> hasE ie ea σ -> Pd K F H fd dd q -> suD q ie l ρ = some ρ' ->
    (∀ σ2 F2 H2, Rep K B F2 σ2 H2 ρ' -> Same F F2 -> D.nx σ2 H2) -> tSu K ie ea dd fd l D σ H
  | [], ρ, ρ', σ, F, H, r, _, _, hs, k => by cases hs; exact k σ F H r (Same.refl _)
  | (i, f) :: l, ρ, ρ', σ, F, H, r, hh, pd, hs, k => by
    unfold suD at hs
    split at hs
    · rename_i hne
      cases q1 : f q with
      | none => rw [q1] at hs; cases hs
      | some d =>
        rw [q1, Option.bind_some] at hs
        refine ⟨hh, F, q, d, r.fh, pd, q1, fun v F1 H1 e1 p1 => su_ok ((r.ext e1).setv p1) ?_ (pd.ext e1) hs fun σ2 F2 H2 r2 s2 => k σ2 F2 H2 r2 (e1.ff.trans s2)⟩
        cases ie with
        | none => trivial
        | some kk =>
          show (σ.set i (some v))[kk]? = some (some (.ref ea))
          rw [List.getElem?_set_ne (fun z => hne (by rw [z]))]
          exact hh
    · cases hs
theorem su_keep {q : Option D} {k : Nat} : ∀ {l : List (Nat × Jt)} {ρ ρ' : EnvD}, suD q (some k) l ρ = some ρ' -> ρ'[k]? = ρ[k]?
  | [], ρ, ρ', hs => by cases hs; rfl
  | (i, f) :: l, ρ, ρ', hs => by
    unfold suD at hs
    split at hs
    · rename_i hne
      cases q1 : f q with
      | none => rw [q1] at hs; cases hs
      | some d =>
        rw [q1, Option.bind_some] at hs
        rw [su_keep hs, List.getElem?_set_ne (fun z => hne (by rw [z]))]
    · cases hs
theorem rep_any {K : KW} {F : Hp} {σ : St} {H : Hp} {ρ : EnvD} {i : Nat} {u : Option V} (r : Rep K B F σ H ρ) (h : ∀ x, ρ[i]? ≠ some (some x)) : Rep K B F (σ.set i u) H ρ := by
  have ne : ∀ {j : Nat} {x : En}, ρ[j]? = some (some x) -> j ≠ i := fun {j x} e z => by subst z; exact h x e
  refine ⟨r.ex, by simp [r.len], fun j x e => ?_, fun j l y z v w e1 e2 s1 s2 hne => ?_⟩
  · obtain ⟨v, h1, h2⟩ := r.ents j x e
    exact ⟨v, by rw [List.getElem?_set_ne (Ne.symm (ne e))]; exact h1, h2⟩
  · rw [List.getElem?_set_ne (Ne.symm (ne e1))] at s1
    rw [List.getElem?_set_ne (Ne.symm (ne e2))] at s2
    exact r.dj j l y z v w e1 e2 s1 s2 hne
end
structure ClV where
  ie : Option Nat
  its : List (Str × List (Nat × Jt))
def pickV : List ClV -> Str -> Option (Option Nat × List (Nat × Jt))
  | [], _ => none
  | c :: r, nm => match c.its.lookup nm with
    | some l => some (c.ie, l)
    | none => pickV r nm
theorem pickV_mem {nm : Str} {c : Option Nat × List (Nat × Jt)} : ∀ {cls : List ClV}, pickV cls nm = some c -> ∃ d ∈ cls, d.ie = c.1 /\ (nm, c.2) ∈ d.its
  | [], h => by cases h
  | d :: r, h => by
    unfold pickV at h
    split at h
    · rename_i l q
      cases h
      exact ⟨d, .head _, rfl, lookup_mem q⟩
    · obtain ⟨d', h1, h2⟩ := pickV_mem h
      exact ⟨d', .tail _ h1, h2⟩
inductive CvOk (X : Cx) (ca : Str -> Addr) (fd : Str) : List ExceptHandler -> List ClV -> Prop
  | nil : CvOk X ca fd [] []
  | as {xM n : Str} {MC : Addr} {ie : Nat} {its : List (Str × List (Nat × Jt))} {b0 : Stmt} {suite : List Stmt} {rest : List ExceptHandler} {cls : List ClV} {pM hpos : Pos} (hg : Gl X xM) (hm : X.mg xM = some (.ref MC)) (hdb : (xM == ("__debug__" : Str)) = false)
      (hie : X.N[ie]? = some n) (hl : X.env.scope.names.lookup n = some .local) (hit : ∀ q ∈ its, SuV X (ca q.1) (some ie) fd (b0 :: suite) q.2) (hx : ∀ q ∈ its, XM X.K (ca q.1) MC) (hn : ∀ c ∈ cls, ∀ q ∈ c.its, XN X.K (ca q.1) MC) (hr : CvOk X ca fd rest cls) :
      CvOk X ca fd (.ExceptHandler (some (.Name xM pM)) (some n) (b0 :: suite) hpos :: rest) (⟨some ie, its⟩ :: cls)
  | no {xM : Str} {MC : Addr} {its : List (Str × List (Nat × Jt))} {b0 : Stmt} {suite : List Stmt} {rest : List ExceptHandler} {cls : List ClV} {pM hpos : Pos} (hg : Gl X xM) (hm : X.mg xM = some (.ref MC)) (hdb : (xM == ("__debug__" : Str)) = false)
      (hit : ∀ q ∈ its, SuV X (ca q.1) none fd (b0 :: suite) q.2) (hx : ∀ q ∈ its, XM X.K (ca q.1) MC) (hn : ∀ c ∈ cls, ∀ q ∈ c.its, XN X.K (ca q.1) MC) (hr : CvOk X ca fd rest cls) :
      CvOk X ca fd (.ExceptHandler (some (.Name xM pM)) none (b0 :: suite) hpos :: rest) (⟨none, its⟩ :: cls)
def vWish (K : KW) (fd : Str) (c : Option Nat × List (Nat × Jt)) (D : Ends) (σ' : St) (dd : Option Addr) (H' : Hp) : Prop := ∀ ea, H' ea = none -> match c.1 with
  | some k => tSu K (some k) ea dd fd c.2 { nx := fun σ2 H2 => D.nx (σ2.set k none) H2, rt := fun _ _ => False } (σ'.set k (some (.ref ea))) H'
  | none => tSu K none ea dd fd c.2 { nx := D.nx, rt := fun _ _ => False } σ' H'
section
variable {X : Cx} {B : Bs} {ca : Str -> Addr} {fd : Str}
theorem cv_hs (hN : X.N.Nodup) : ∀ {hs : List ExceptHandler} {cls : List ClV}, CvOk X ca fd hs cls -> ∃ hds, HsOk X hs hds /\ ∀ {nm : Str} {c : Option Nat × List (Nat × Jt)} {D : Ends} {σ' : St} {dd : Option Addr} {H' : Hp}, pickV cls nm = some c -> vWish X.kw fd c D σ' dd H' -> hWish X.K hds D σ' (.ref (ca nm)) dd H'
  | _, _, .nil => ⟨[], .nil, fun h => by cases h⟩
  | _, _, @CvOk.as _ _ _ xM n MC ie its b0 suite rest cls pM hpos hg hm hdb hie hl hit hx hn hr => by
    obtain ⟨hds, h1, h2⟩ := cv_hs hN hr
    refine ⟨⟨MC, some ie, fun ea C dd D σ H => ∃ q ∈ its, C = ca q.1 /\ tSu X.kw (some ie) ea dd fd q.2 D σ H⟩ :: hds, .as hg hm hdb hie hl (fun ea oe C dd hc hd hf => ?_) h1, fun {nm c D σ' dd H'} hp hw => ?_⟩
    · intro pins s σ H D I ⟨q, hq, hC, h⟩
      subst hC
      exact su_ps hN (hit q hq) ea oe dd hc hd hf pins s σ H D I h
    · refine ⟨ca nm, rfl, ?_⟩
      unfold pickV at hp
      split at hp
      · rename_i l q
        cases hp
        exact .inl ⟨hx (nm, l) (lookup_mem q), fun ea hea => ⟨(nm, l), lookup_mem q, rfl, hw ea hea⟩⟩
      · obtain ⟨d, e1, e2, e3⟩ := pickV_mem hp
        exact .inr ⟨hn d e1 (nm, c.2) e3, h2 hp hw⟩
  | _, _, @CvOk.no _ _ _ xM MC its b0 suite rest cls pM hpos hg hm hdb hit hx hn hr => by
    obtain ⟨hds, h1, h2⟩ := cv_hs hN hr
    refine ⟨⟨MC, none, fun ea C dd D σ H => ∃ q ∈ its, C = ca q.1 /\ tSu X.kw none ea dd fd q.2 D σ H⟩ :: hds, .no hg hm hdb (fun ea oe C dd hc hd hf => ?_) h1, fun {nm c D σ' dd H'} hp hw => ?_⟩
    · intro pins s σ H D I ⟨q, hq, hC, h⟩
      subst hC
      exact su_ps hN (hit q hq) ea oe dd hc hd hf pins s σ H D I h
    · refine ⟨ca nm, rfl, ?_⟩
      unfold pickV at hp
      split at hp
      · rename_i l q
        cases hp
        exact .inl ⟨hx (nm, l) (lookup_mem q), fun ea hea => ⟨(nm, l), lookup_mem q, rfl, hw ea hea⟩⟩
      · obtain ⟨d, e1, e2, e3⟩ := pickV_mem hp
        exact .inr ⟨hn d e1 (nm, c.2) e3, h2 hp hw⟩
def okV (ie : Option Nat) (ρ : EnvD) : Bool := match ie with
  | none => true
  | some k => unset (ρ[k]?)
def sTryV (cls : List ClV) (gs : SD) (gx : EnvD -> Option (EnvD × Xv)) : SD := fun ρ => match gs ρ with
  | some fl => some fl
  | none => (gx ρ).bind fun q => (pickV cls q.2.1).bind fun c => if okV c.1 q.1 = true then (suD q.2.2 c.1 c.2 q.1).map .next else none
variable {gs : SD} {gx : EnvD -> Option (EnvD × Xv)} {body : List Stmt} {h0 : ExceptHandler} {hs : List ExceptHandler} {cls : List ClV} {pos : Pos}
theorem ds_tryV (h1 : DSs X.nox B body gs) (h2 : ∀ pn (E : St -> XK), DVs (cxT X pn (WX X pn E)) B ca fd E body gx) (hN : X.N.Nodup) (hstk : X.stack = X.env :: X.outer /\ X.env.frame = some X.env.locals) (hc : CvOk X ca fd (h0 :: hs) cls) :
    DS X B (.Try body (h0 :: hs) [] [] pos) (sTryV cls gs gx) := by
  obtain ⟨hds, hh, hw⟩ := cv_hs hN hc
  refine ps_imp (ps_tryH (t1 := lS X.kw B gs) (t2 := fun E _ σ H => lVs X.kw B ca fd E gx σ H) h1 h2 hN hstk hh) fun D σ H h => ?_
  obtain ⟨F, ρ, fl, r, hgg, k⟩ := h
  unfold sTryV at hgg
  cases q1 : gs ρ with
  | some f1 =>
    rw [q1] at hgg
    have hgg : some f1 = some fl := hgg
    cases hgg
    exact .inl ⟨F, ρ, fl, r, q1, k⟩
  | none =>
    rw [q1] at hgg
    replace hgg : ((gx ρ).bind fun q => (pickV cls q.2.1).bind fun c => if okV c.1 q.1 = true then (suD q.2.2 c.1 c.2 q.1).map Fl.next else none) = some fl := hgg
    obtain ⟨q, q2, hgg⟩ := Option.bind_eq_some_iff.mp hgg
    obtain ⟨c, q3, hgg⟩ := Option.bind_eq_some_iff.mp hgg
    split at hgg
    · rename_i hok
      cases q4 : suD q.2.2 c.1 c.2 q.1 with
      | none => rw [q4] at hgg; cases hgg
      | some ρ' =>
        rw [q4] at hgg
        cases hgg
        refine .inr ⟨F, ρ, q, r, q2, fun dd σ' F' H' r' s' pd => hw q3 ?_⟩
        intro ea hea
        obtain ⟨ie, fs⟩ := c
        cases ie with
        | none => exact su_ok (D := { nx := D.nx, rt := fun _ _ => False }) r' trivial pd q4 fun σ2 F2 H2 r2 s2 => k σ2 F2 H2 r2 (s'.trans s2)
        | some kk =>
          have e4 : q.1[kk]? = some none := unset_eq hok
          have len : kk < σ'.length := by rw [r'.len]; exact (List.getElem?_eq_some_iff.mp e4).1
          have nx : ∀ x, q.1[kk]? ≠ some (some x) := fun x z => by rw [e4] at z; cases z
          refine su_ok (D := { nx := fun σ2 H2 => D.nx (σ2.set kk none) H2, rt := fun _ _ => False }) (rep_any r' nx) (List.getElem?_set_self len) pd q4 fun σ2 F2 H2 r2 s2 => ?_
          refine k _ F2 H2 (rep_drop r2 fun x z => ?_) (s'.trans s2)
          rw [su_keep q4, e4] at z
          cases z
    · cases hgg
end
def sameD : Nat -> D -> D -> Bool
  | 0, _, _ => false
  | n + 1, d, d' => (eqOk d && eqOk d' && eqD d d') || match d, d' with
    | .emp, .emp => true
    | .tup xs, .tup ys => xs.length == ys.length && (xs.zip ys).all fun p => sameD n p.1 p.2
    | _, _ => false
section
variable {X : Cx} {pins : List (Addr × Obj)} {σ : St} {H : Hp} {s : Shared}
theorem emp_at {A : Around} {F : Hp} {v v' : V} {u u' : Value} (I : Inv X pins σ H s) (fh : Same F H) (hu : A.units < cLine) (r : Rp X.kw F .emp v) (r' : Rp X.kw F .emp v') (rv : RelV v u) (rv' : RelV v' u') : SeqAt.EqAt A s u u' true := by
  obtain ⟨a, rfl, q⟩ := r
  obtain ⟨c, rfl, q'⟩ := r'
  obtain rfl : u = Value.ref a := rv
  obtain rfl : u' = Value.ref c := rv'
  by_cases hac : a = c
  · subst hac; exact SeqAt.EqAt.same _
  · obtain ⟨_, y, vs, kv, da⟩ := (show ObjOk X.prog X.w H s.heap a (.dK []) from I.hok a _ (fh _ _ q))
    obtain ⟨_, y', vs', kv', da'⟩ := (show ObjOk X.prog X.w H s.heap c (.dK []) from I.hok c _ (fh _ _ q'))
    cases kv; cases kv'
    refine SeqAt.EqAt.of_refs hac fun prog w E Q hq => ?_
    have em : ∀ {P' : Program} {w' : World} {z : Addr}, s.heap.DictOf (mixKind X.prog X.w) z [] -> s.heap.DictOf (mixKind P' w') z [] := fun {P' w' z} q => by
      obtain ⟨o, es, ep, h1, h2, h3, h4, h5, h6⟩ := q
      cases e : es.toList with
      | nil =>
        have e0 : es = #[] := by simpa using e
        exact ⟨o, es, ep, h1, h2, h3, fun x hx => by rw [e0] at hx; simp at hx, by rw [e]; exact .nil, h6⟩
      | cons a r => rw [e] at h5; cases h5
    exact PySem.W.keq_eq (knd := mixKind prog w) y y' (em da) (em da') hu (fun _ => .nil) hq
theorem rps_zip {K : KW} {F : Hp} {P : D -> D -> Prop} : ∀ {ds ds' : List D} {vs vs' : List V} {us us' : List Value}, Rps K F ds vs -> Rps K F ds' vs' -> Vals vs us -> Vals vs' us' -> ds.length = ds'.length -> (∀ p ∈ ds.zip ds', P p.1 p.2) ->
    us.length = ds.length /\ us'.length = ds.length /\ ∀ j (h1 : j < us.length) (h2 : j < us'.length), ∃ d d' v v', P d d' /\ Rp K F d v /\ Rp K F d' v' /\ RelV v us[j] /\ RelV v' us'[j]
  | [], [], _, _, _, _, r, r', rv, rv', _, _ => by
    cases r; cases r'; cases rv; cases rv'
    exact ⟨rfl, rfl, fun j h1 _ => absurd h1 (Nat.not_lt_zero _)⟩
  | d :: ds, d' :: ds', _, _, _, _, ⟨v, vr, e1, p1, p2⟩, ⟨v', vr', e2, p3, p4⟩, rv, rv', hl, hp => by
    subst e1 e2
    cases rv with
    | cons w1 w2 =>
      cases rv' with
      | cons w3 w4 =>
        obtain ⟨l1, l2, k⟩ := rps_zip (P := P) p2 p4 w2 w4 (by simpa using hl) fun p h => hp p (List.mem_cons_of_mem _ h)
        refine ⟨by simp [l1], by simp [l2], fun j h1 h2 => ?_⟩
        cases j with
        | zero => exact ⟨d, d', v, v', hp (d, d') (.head _), p1, p3, w1, w3⟩
        | succ j => exact k j (by simpa using h1) (by simpa using h2)
  | [], _ :: _, _, _, _, _, _, _, _, _, hl, _ => by simp at hl
  | _ :: _, [], _, _, _, _, _, _, _, _, hl, _ => by simp at hl
theorem same_at {F : Hp} (I : Inv X pins σ H s) (fh : Same F H) : ∀ (n : Nat) (A : Around) {d d' : D} {v v' : V} {u u' : Value}, A.units + 65 + n < cLine -> sameD n d d' = true -> Rp X.kw F d v -> Rp X.kw F d' v' -> RelV v u -> RelV v' u' -> SeqAt.EqAt A.in1 s u u' true
  | 0, _, _, _, _, _, _, _, _, h, _, _, _, _ => by cases h
  | n + 1, A, d, d', v, v', u, u', hu, h, r, r', rv, rv' => by
    have hu1 : A.in1.units + 64 < cLine := by rw [Around.in1_units]; omega
    unfold sameD at h
    rcases Bool.or_eq_true_iff.mp h with h | h
    · obtain ⟨h12, h3⟩ := Bool.and_eq_true_iff.mp h
      obtain ⟨h1, h2⟩ := Bool.and_eq_true_iff.mp h12
      obtain ⟨as, ra⟩ := r.reads I fh d (SeqAt.canLay_of_shaped h1) rv
      obtain ⟨bs, rb⟩ := r'.reads I fh d' (SeqAt.canLay_of_shaped h2) rv'
      have := PySem.W.keq_at (A := A) ra rb h1 h2 hu1
      rw [show (toP d).eqv (toP d') = true from h3] at this
      exact this
    · split at h
      · exact emp_at I fh (by rw [Around.in1_units]; omega) r r' rv rv'
      · rename_i xs ys
        obtain ⟨h1, h2⟩ := Bool.and_eq_true_iff.mp h
        obtain ⟨a, vs, rfl, q, rr⟩ := r
        obtain ⟨c, vs', rfl, q', rr'⟩ := r'
        obtain rfl : u = Value.ref a := rv
        obtain rfl : u' = Value.ref c := rv'
        by_cases hac : a = c
        · subst hac; exact SeqAt.EqAt.same _
        · obtain ⟨z, its, rw1, pt⟩ := (show ObjOk X.prog X.w H s.heap a (.tup vs) from I.hok a _ (fh _ _ q))
          obtain ⟨z', its', rw2, pt'⟩ := (show ObjOk X.prog X.w H s.heap c (.tup vs') from I.hok c _ (fh _ _ q'))
          obtain ⟨o, e, hc, m, hd⟩ := pt
          obtain ⟨o', e', hc', m', hd'⟩ := pt'
          obtain ⟨l1, l2, k⟩ := rps_zip (P := fun d d' => sameD n d d' = true) rr rr' rw1 rw2 (by simpa using h1) fun p hp => List.all_eq_true.mp h2 p hp
          have := SeqAt.RcAt.tuples (A := A.in1) (s := s) (e := fun _ => true) ⟨o, e, hc, m, hd⟩ ⟨o', e', hc', m', hd'⟩ (by rw [Around.in1_units]; omega) fun j g1 g2 => by
            obtain ⟨d, d', v, v', p1, p2, p3, p4, p5⟩ := k j (by simpa using g1) (by simpa using g2)
            have := same_at I fh n A.in1 (by rw [Around.in1_units]; omega) p1 p2 p3 p4 p5
            simpa using this
          refine SeqAt.EqAt.of_refs hac ?_
          have e5 : ((List.range (min its.toArray.size its'.toArray.size)).all (fun _ => true) && its.toArray.size == its'.toArray.size) = true := by simp [l1, l2]
          rw [e5] at this
          exact this
      · cases h
def rSame (K : KW) (neg : Bool) : R2 := fun x y H Q => ∃ F ds ds', Same F H /\ Rq K F H (.lst ds) x /\ Rq K F H (.lst ds') y /\ ds.length = ds'.length /\ (∀ p ∈ ds.zip ds', sameD 8 p.1 p.2 = true) /\ Q (.bl neg) H
theorem op_neS (hu : X.A.units + 100 < cLine) : OpR X (compareOp .NotEq) (rSame X.kw false) := by
  intro pins s σ H x y v u Q I rx ry ⟨F, ds, ds', fh, h1, h2, hl, hp, q⟩
  obtain ⟨a, vs, rfl, e1, r1⟩ := h1.lst fh
  obtain ⟨c, vs', rfl, e2, r2⟩ := h2.lst fh
  cases rx; cases ry
  obtain ⟨z, its, n, rv, e3⟩ := (show ObjOk X.prog X.w H s.heap a (.lst vs) from I.hok a _ e1)
  obtain ⟨z', its', n', rv', e4⟩ := (show ObjOk X.prog X.w H s.heap c (.lst vs') from I.hok c _ e2)
  obtain ⟨l1, l2, k⟩ := rps_zip (P := fun d d' => sameD 8 d d' = true) r1 r2 rv rv' hl hp
  refine SeqAt.RcNeAt.lists (e := fun _ => true) ⟨_, e3, rfl, n, rfl⟩ ⟨_, e4, rfl, n', rfl⟩ (by simp [l1, l2]) (by omega) (fun j g1 g2 => ?_) X.prog X.w X.xe _ ⟨.bl _, H, I, rfl, ?_⟩
  · obtain ⟨d, d', v, v', p1, p2, p3, p4, p5⟩ := k j (by simpa using g1) (by simpa using g2)
    have := same_at I fh 8 X.A (by omega) p1 p2 p3 p4 p5
    simpa using this
  · have e5 : (!(List.range its.toArray.size).all fun _ => true) = false := by
      rw [show ((List.range its.toArray.size).all fun _ => true) = true from List.all_eq_true.mpr fun _ _ => rfl]; rfl
    rw [e5]; exact q
def fNeS : D -> D -> Option D
  | .lst ds, .lst ds' => if (ds.length == ds'.length && (ds.zip ds').all fun p => sameD 8 p.1 p.2) = true then some (.bl false) else none
  | _, _ => none
theorem ok_neS {K : KW} : OkR K (rSame K false) (pE K) fNeS := by
  intro F H x y dx dy d Q s rx ry e k
  unfold fNeS at e
  split at e
  · rename_i ds ds'
    split at e
    · rename_i h
      cases e
      obtain ⟨h1, h2⟩ := Bool.and_eq_true_iff.mp h
      exact ⟨F, ds, ds', s, rx, ry, by simpa using h1, fun p hp => List.all_eq_true.mp h2 p hp, k _ F H (.refl s) rfl⟩
    · cases e
  · cases e
def rNe0 (K : KW) : R2 := fun x y H Q => ∃ F ds, Same F H /\ Rq K F H (.lst ds) x /\ Rq K F H (.lst []) y /\ Q (.bl (!ds.isEmpty)) H
theorem op_ne0 (hu : X.A.units + 100 < cLine) : OpR X (compareOp .NotEq) (rNe0 X.kw) := by
  intro pins s σ H x y v u Q I rx ry ⟨F, ds, fh, h1, h2, q⟩
  obtain ⟨a, vs, rfl, e1, r1⟩ := h1.lst fh
  obtain ⟨c, vs', rfl, e2, r2⟩ := h2.lst fh
  cases rx; cases ry
  obtain ⟨z, its, n, rv, e3⟩ := (show ObjOk X.prog X.w H s.heap a (.lst vs) from I.hok a _ e1)
  obtain ⟨z', its', n', rv', e4⟩ := (show ObjOk X.prog X.w H s.heap c (.lst vs') from I.hok c _ e2)
  cases r2
  cases rv'
  cases ds with
  | nil =>
    cases r1
    cases rv
    exact SeqAt.RcNeAt.lists (e := fun _ => true) ⟨_, e3, rfl, n, rfl⟩ ⟨_, e4, rfl, n', rfl⟩ rfl (by omega) (fun j g1 g2 => absurd g1 (Nat.not_lt_zero _)) X.prog X.w X.xe _ ⟨.bl _, H, I, rfl, q⟩
  | cons d dr =>
    have l1 := r1.length
    have l2 := rv.length
    exact SeqAt.RcNeAt.lists_lengths ⟨_, e3, rfl, n, rfl⟩ ⟨_, e4, rfl, n', rfl⟩ (by
      have : its.length ≠ 0 := by rw [<- l2, <- l1]; simp
      simpa using this) (by omega) X.prog X.w X.xe _ ⟨.bl _, H, I, rfl, q⟩
def fNe0 : D -> D -> Option D
  | .lst ds, .lst [] => some (.bl (!ds.isEmpty))
  | _, _ => none
@[simp] theorem ev_fNe0 {ds : List D} : fNe0 (.lst ds) (.lst []) = some (.bl (!ds.isEmpty)) := rfl
theorem ok_ne0 {K : KW} : OkR K (rNe0 K) (pE K) fNe0 := by
  intro F H x y dx dy d Q s rx ry e k
  unfold fNe0 at e
  split at e
  · rename_i ds
    cases e
    exact ⟨F, ds, s, rx, ry, k _ F H (.refl s) rfl⟩
  · cases e
end
end Dv
theorem L2.Room.units2 {k : Nat} {A : PySem.Around} (r : L2.Room k A) : A.units + 100 < PySem.cLine := by have := r.un; omega
namespace Dv
open PySem PySem.Spec L2 L3 L4 L6
open PyProof.Rows hiding St
theorem kit_type {K : PySem.W.Frag} {C : Addr} {T : String} (h1 : PySem.W.kitMeta T = true) (h3 : PySem.W.subIn K (.ref C) (.type T) = some true) : PySem.W.kitOne K (.ref C) (.type T) = some true := by
  unfold PySem.W.kitOne
  split
  · rfl
  · unfold PySem.W.kitCls
    simp [h1, h3]
def conA : Expr -> Option D
  | .Constant (.str x) _ _ => some (.str x)
  | .Constant (.int i) _ _ => some (.int i)
  | .Constant (.bool b) _ _ => some (.bl b)
  | .Constant .none _ _ => some .non
  | .UnaryOp .USub (.Constant (.int i) _ _) _ => some (.int (-i))
  | .BinOp (.Constant (.int i) _ _) .Pow (.Constant (.int j) _ _) _ => fPow (.int i) (.int j)
  | _ => none
def conAs : List Expr -> Option (List D)
  | [] => some []
  | e :: es => (conA e).bind fun d => (conAs es).map (d :: ·)
def conE : Expr -> Option D
  | .Tuple es _ _ => (conAs es).bind fun ds => if ds.length <= TOP then some (.tup ds) else none
  | .List es _ => (conAs es).bind fun ds => if ds.length <= TOP then some (.lst ds) else none
  | .Dict [] [] _ => some .emp
  | e => conA e
def conEs : List Expr -> Option (List D)
  | [] => some []
  | e :: es => (conE e).bind fun d => (conEs es).map (d :: ·)
def gK (ds : List D) : EnvD -> Option (List D) := fun _ => some ds
@[simp] theorem ev_gK {ds : List D} {ρ : EnvD} : gK ds ρ = some ds := rfl
theorem de_same {X : Cx} {B : Bs} {e : Expr} {g g' : EnvD -> Option D} (h : DE X B e g) (k : ∀ ρ, g' ρ = g ρ) : DE X B e g' := by
  have : g' = g := funext k
  rw [this]; exact h
theorem das_same {X : Cx} {B : Bs} {es : List Expr} {g g' : EnvD -> Option (List D)} (h : DAs X B es g) (k : ∀ ρ, g' ρ = g ρ) : DAs X B es g' := by
  have : g' = g := funext k
  rw [this]; exact h
theorem noStar_conA {e : Expr} {d : D} (h : conA e = some d) : noStar e = true := by
  cases e <;> first | rfl | (simp [conA] at h)
theorem noStar_conE {e : Expr} {d : D} (h : conE e = some d) : noStar e = true := by
  cases e <;> first | rfl | (simp [conE, conA] at h)
section
variable {X : Cx} {B : Bs} {pos : Pos}
theorem de_conA {e : Expr} {d : D} (h : conA e = some d) : DE X B e (gc d) := by
  unfold conA at h
  split at h
  · cases h; exact de_str
  · cases h; exact de_int
  · cases h; exact de_bl
  · cases h; exact de_non
  · cases h; exact de_same (de_neg de_int.read) fun ρ => rfl
  · exact de_same (de_pow de_int.read de_int.read) fun ρ => by
      show some d = ((gc _ ρ).bind fun x => (gc _ ρ).bind fun y => fPow x y)
      exact h.symm
  · cases h
theorem das_conA : ∀ {es : List Expr} {ds : List D}, conAs es = some ds -> DAs X B es (gK ds)
  | [], ds, h => by cases h; exact das_nil
  | e :: es, ds, h => by
    replace h : ((conA e).bind fun d => (conAs es).map (d :: ·)) = some ds := h
    cases q1 : conA e with
    | none => rw [q1] at h; cases h
    | some d =>
      cases q2 : conAs es with
      | none => rw [q1, q2] at h; cases h
      | some dr =>
        rw [q1, q2] at h
        cases h
        exact das_same (das_cons (de_conA q1) (das_conA q2) (star_of (noStar_conA q1))) fun ρ => rfl
theorem de_conE {e : Expr} {d : D} (h : conE e = some d) : DE X B e (gc d) := by
  unfold conE at h
  split at h
  · rename_i es _ _
    cases q : conAs es with
    | none => rw [q] at h; cases h
    | some ds =>
      rw [q, Option.bind_some] at h
      exact de_same (de_tup (das_conA q)) fun ρ => h.symm
  · rename_i es _
    cases q : conAs es with
    | none => rw [q] at h; cases h
    | some ds =>
      rw [q, Option.bind_some] at h
      refine de_same (DA.frz (da_lst (das_conA q))) fun ρ => ?_
      show some d = (((gK ds ρ).bind fun ds => if ds.length <= TOP then some ds else none).map D.lst)
      rw [<- h]
      show (if ds.length <= TOP then some (D.lst ds) else none) = ((if ds.length <= TOP then some ds else none).map D.lst)
      split <;> rfl
  · cases h; exact de_emp
  · exact de_conA h
theorem das_conE : ∀ {es : List Expr} {ds : List D}, conEs es = some ds -> DAs X B es (gK ds)
  | [], ds, h => by cases h; exact das_nil
  | e :: es, ds, h => by
    replace h : ((conE e).bind fun d => (conEs es).map (d :: ·)) = some ds := h
    cases q1 : conE e with
    | none => rw [q1] at h; cases h
    | some d =>
      cases q2 : conEs es with
      | none => rw [q1, q2] at h; cases h
      | some dr =>
        rw [q1, q2] at h
        cases h
        exact das_same (das_cons (de_conE q1) (das_conE q2) (star_of (noStar_conE q1))) fun ρ => rfl
theorem da_con {es : List Expr} {ds : List D} (h : conEs es = some ds) : DA X B (.List es pos) (gLst (gK ds)) := da_lst (das_conE h)
end
end Dv
namespace QM
variable {α : Type} [DecidableEq α]
abbrev Tk (α : Type) := α × Int
def srv (m : Nat) (q : List (Tk α)) : List α := (q.take m).map (·.1)
def beh (m : Nat) (q : List (Tk α)) : List (Tk α) := ((q.take m).filter fun t => decide (1 < t.2)).map (fun t => (t.1, t.2 - 1)) ++ q.drop m
def walk (f : Int -> Int) : Int -> List (Tk α) -> List (Int × List α) -> Option (List (Tk α))
  | _, q, [] => some q
  | due, q, r :: rs => if q = [] ∨ r.1 ≠ due ∨ r.2 ≠ srv (f due).toNat q then none else walk f (due + 1) (beh (f due).toNat q) rs
end QM
namespace Dv
open PySem PySem.Spec L2 L3 L4 QM
open PyProof.Rows hiding St
abbrev Ok (x : Str) : Prop := PyData.strOk x = true
theorem eqv_str (x y : Str) : PyData.eqv (.str x) (.str y) = decide (x = y) := by
  show (x == y) = _
  by_cases h : x = y
  · subst h; simp
  · simp [h]
theorem eqv_int (x y : Int) : PyData.eqv (.int x) (.int y) = decide (x = y) := by
  show (x == y) = _
  by_cases h : x = y
  · subst h; simp
  · simp [h]
def Lay (n : Nat) (d : D) : Prop := (toP d).canLay0 = true /\ (toP d).depth <= n
theorem Lay.ok {n : Nat} {d : D} (h : Lay n d) (hn : n <= 64) : eqOk d = true := by
  unfold eqOk SeqAt.shaped
  rw [h.1]
  simpa using Nat.le_trans h.2 hn
theorem lay_int {i : Int} : Lay 0 (.int i) := ⟨rfl, Nat.le_refl _⟩
theorem lay_str {x : Str} (h : Ok x) : Lay 0 (.str x) := ⟨h, Nat.le_refl _⟩
theorem fEq_of {neg : Bool} {x y : D} {n m : Nat} {b : Bool} (hx : Lay n x) (hy : Lay m y) (hn : n <= 64) (hm : m <= 64) (e : PyData.eqv (toP x) (toP y) = b) : fEq neg x y = some (.bl (if neg then !b else b)) := by
  unfold fEq eqD
  rw [hx.ok hn, hy.ok hm, e]; rfl
end Dv
namespace QM
variable {α : Type} [DecidableEq α]
inductive Run (f : Int -> Int) : Int -> List (Tk α) -> List (Int × List α) -> Prop
  | nil (x : Int) : Run f x [] []
  | cons {x : Int} {q : List (Tk α)} {rs : List (Int × List α)} : q ≠ [] -> Run f (x + 1) (beh (f x).toNat q) rs -> Run f x q ((x, srv (f x).toNat q) :: rs)
variable {f : Int -> Int} {x : Int} {q q' : List (Tk α)} {rows rows' tl : List (Int × List α)} {v : α}
end QM
namespace Dv
open PySem PySem.Spec L2 L3 L4 QM
open PyProof.Rows hiding St
def mk (l : List Nat) : Str := ⟨l.toArray⟩
theorem mk_inj {a b : List Nat} (h : mk a = mk b) : a = b := by
  have : a.toArray = b.toArray := congrArg Str.cps h
  simpa using this
theorem mk_app (a b : List Nat) : mk a ++ mk b = mk (a ++ b) := by
  show (⟨a.toArray ++ b.toArray⟩ : Str) = ⟨(a ++ b).toArray⟩
  simp
theorem mk_len (l : List Nat) : (mk l).length = l.length := by simp [mk, Str.length]
theorem item_mk {l : List Nat} {a : Int} (h : l.length <= TOP) (h1 : 0 <= a) (h2 : a < l.length) : fItem (.str (mk l)) (.int a) = some (.str (mk [l.getD a.toNat 0])) := by
  rw [ev_fItemS, if_pos (by rw [mk_len]; exact h)]
  obtain ⟨v, e1, e2⟩ := atI_pos (xs := l) h1 h2
  have e3 : l.getD a.toNat 0 = v := by rw [List.getD_eq_getElem?_getD, e2]; rfl
  rw [e3, show (mk l).cps.toList = l by simp [mk], e1]
  rfl
theorem slice_mk {l : List Nat} {k : Int} (h1 : 0 <= k) (h2 : k <= l.length) : Txt.slice (mk l) none (some k) = mk (l.take k.toNat) := by
  have e := slice_closes_to (x := mk l) (j := k) ⟨h1, by simp [mk]; exact h2⟩
  have e := eq_of_beq e
  rw [e]
  simp [mk]
def SIGNS : Str := "abcdefghijklmnopqrstuvwxyz0123456789"
def S36 : List Nat := [97, 98, 99, 100, 101, 102, 103, 104, 105, 106, 107, 108, 109, 110, 111, 112, 113, 114, 115, 116, 117, 118, 119, 120, 121, 122, 48, 49, 50, 51, 52, 53, 54, 55, 56, 57]
theorem signs_mk : SIGNS = mk S36 := by decide +kernel
def sg (a : Int) : Nat := S36.getD a.toNat 0
theorem sg_item {a : Int} (h1 : 0 <= a) (h2 : a < 36) : fItem (.str SIGNS) (.int a) = some (.str (mk [sg a])) := by
  rw [signs_mk]
  have hl : (S36.length : Int) = 36 := by decide
  exact item_mk (by decide) h1 (by omega)
theorem sg_mem {a : Int} (h1 : 0 <= a) (h2 : a < 36) : sg a ∈ S36 := by
  unfold sg
  have hl : S36.length = 36 := by decide
  have : a.toNat < S36.length := by omega
  rw [List.getD_eq_getElem?_getD, List.getElem?_eq_getElem this]
  exact List.getElem_mem _
theorem sg_low {a : Int} (h1 : 0 <= a) (h2 : a < 26) : sg a ∈ S36.take 26 := by
  unfold sg
  have hl : (S36.take 26).length = 26 := by decide
  have h3 : a.toNat < (S36.take 26).length := by omega
  have e : S36.getD a.toNat 0 = (S36.take 26)[a.toNat] := by
    rw [List.getD_eq_getElem?_getD]
    have : S36[a.toNat]? = (S36.take 26)[a.toNat]? := by rw [List.getElem?_take]; rw [if_pos (by omega)]
    rw [this, List.getElem?_eq_getElem h3]; rfl
  rw [e]
  exact List.getElem_mem _
def NameOk (x : Str) : Prop := ∃ c cs, x = mk (c :: cs) /\ c ∈ S36.take 26 /\ (∀ d ∈ cs, d ∈ S36) /\ cs.length <= 7
theorem mk_ok {l : List Nat} (h : ∀ d ∈ l, d ∈ S36) : Ok (mk l) := by
  show (mk l).cps.all (· < 0x110000) = true
  rw [Array.all_eq_true']
  intro c hc
  have hc : c ∈ l := by simpa [mk] using hc
  have := h c hc
  have all : S36.all (fun c => decide (c < 0x110000)) = true := by decide
  exact List.all_eq_true.mp all c this
theorem NameOk.ok {x : Str} (h : NameOk x) : Ok x := by
  obtain ⟨c, cs, rfl, h1, h2, _⟩ := h
  exact mk_ok fun d hd => by
    rcases List.mem_cons.mp hd with rfl | hd
    · exact List.mem_of_mem_take h1
    · exact h2 d hd
theorem in_letters {c : Nat} (h : c ∈ S36.take 26) : (Builtin.Str.occurrences ("abcdefghijklmnopqrstuvwxyz" : Str) (mk [c]) 0 ("abcdefghijklmnopqrstuvwxyz" : Str).length 1).isEmpty = false := by
  have all : (S36.take 26).all (fun c => !(Builtin.Str.occurrences ("abcdefghijklmnopqrstuvwxyz" : Str) (mk [c]) 0 ("abcdefghijklmnopqrstuvwxyz" : Str).length 1).isEmpty) = true := by decide +kernel
  simpa using List.all_eq_true.mp all c h
theorem in_signs {c : Nat} (h : c ∈ S36) : (Builtin.Str.occurrences (("abcdefghijklmnopqrstuvwxyz" : Str) ++ ("0123456789" : Str)) (mk [c]) 0 (("abcdefghijklmnopqrstuvwxyz" : Str) ++ ("0123456789" : Str)).length 1).isEmpty = false := by
  have all : S36.all (fun c => !(Builtin.Str.occurrences (("abcdefghijklmnopqrstuvwxyz" : Str) ++ ("0123456789" : Str)) (mk [c]) 0 (("abcdefghijklmnopqrstuvwxyz" : Str) ++ ("0123456789" : Str)).length 1).isEmpty) = true := by decide +kernel
  simpa using List.all_eq_true.mp all c h
theorem ch_mk (l : List Nat) : chD (mk l) = l.map fun c => D.str (mk [c]) := by simp [chD, mk]
end Dv
namespace HM
abbrev Row := Int × Int
def Pos (l : List Row) : Prop := ∀ r ∈ l, 0 < r.1 /\ 0 <= r.2
def nextC (rest : Int) : List Row -> Int
  | [] => rest
  | r :: _ => r.2
def Norm (rest : Int) : List Row -> Prop
  | [] => True
  | r :: rs => nextC rest rs ≠ r.2 /\ Norm rest rs
def Inv (acc : List Row) : Prop := acc = [] ∨ ∃ pre a c, acc = pre ++ [(a, c)] /\ Norm c pre
structure Same {α : Type} (rest : Int) (Φ : List Row -> α) : Prop where
  merge : ∀ pre a b c tl, Pos pre -> Pos tl -> 0 < a -> 0 < b -> Φ (pre ++ (a, c) :: (b, c) :: tl) = Φ (pre ++ (a + b, c) :: tl)
  drop : ∀ pre a, Pos pre -> 0 < a -> Φ (pre ++ [(a, rest)]) = Φ pre
end HM
namespace Dv
open PySem PySem.Spec L2 L3 L4 QM
open PyProof.Rows hiding St
abbrev SI := List (Str × Int)
def kv (q : SI) : List (Key × D) := q.map fun t => (.inr t.1, .int t.2)
end Dv
namespace QM
variable {α : Type} [DecidableEq α]
inductive Eas : List (Tk α) -> List (Tk α) -> Prop
  | nil : Eas [] []
  | skip {t : Tk α} {p q : List (Tk α)} : Eas p q -> Eas p (t :: q)
  | keep {n : α} {a b : Int} {p q : List (Tk α)} : b <= a -> Eas p q -> Eas ((n, b) :: p) ((n, a) :: q)
def val (q : List (Tk α)) (n : α) : Int := ((q.find? fun t => decide (t.1 = n)).map (·.2)).getD 0
variable {f g : Int -> Int}
end QM
namespace Dv
open PySem PySem.Spec L2 L3 L4 QM
open PyProof.Rows hiding St
variable {f : Int -> Int}
def ra (f : Int -> Int) : Int -> SI -> Nat -> List (Int × List Str)
  | _, _, 0 => []
  | x, A, k + 1 => (x, srv (f x).toNat A) :: ra f (x + 1) (beh (f x).toNat A) k
def hb (rows : List (Int × List Str)) (n : Str) (t : Int) : Nat := (rows.filter fun r => decide (r.1 <= t) && decide (n ∈ r.2)).length
end Dv
namespace Dv
open PySem PySem.Spec L2 L3 L4
open PyProof.Rows hiding St
section
variable {i : Nat} {g : EnvD -> Option D} {gl gi : EnvD -> Option (List D)} {gk : EnvD -> Option (List (Key × D))} {gb : EnvD -> Option Bool} {b s1 s2 : SD} {ρ ρ' : EnvD} {d : D} {ds : List D} {kvs : List (Key × D)} {r : Option Fl} {t : Tgt}
end
end Dv
namespace QX
open PySem PySem.StrLaws PySem.Builtin PySem.Builtin.Str
end QX
namespace QX
end QX
namespace My
open PySem PySem.Spec L2 L3 L4 L6 Dv
open PyProof.Rows hiding St
def top (i : Nat) : Stmt := PySem.Challenge.pw_latestturn_k11_queues_refused.main.body.getD i (.Pass ⟨0, 0, 0, 0⟩)
abbrev s_is_whole : Stmt := top 10
abbrev s_is_number : Stmt := top 11
abbrev s_is_name : Stmt := top 12
abbrev s_check_queue : Stmt := top 16
abbrev s_l_cell : Stmt := top 18
abbrev s_l_stir : Stmt := top 19
abbrev s_l_draw : Stmt := top 20
abbrev s_l_name : Stmt := top 21
abbrev s_l_many_named : Stmt := top 22
abbrev s_l_spoilt : Stmt := top 23
abbrev s_l_is_name : Stmt := top 24
abbrev s_l_due : Stmt := top 25
abbrev s_l_kind : Stmt := top 26
abbrev s_l_told : Stmt := top 27
abbrev s_law : Stmt := top 28
def N_is_whole : List Str := ["thing"]
def g_is_whole : SD := (sRet (gAndV (gIs "int" (gr 0)) (gNotV (gIs "bool" (gr 0)))))
def m_is_whole : List En -> Option En := mir N_is_whole (g_is_whole)
def N_is_number : List Str := ["thing", "low", "high"]
def g_is_number : SD := (sRet (gAndV (gCall (len? 1 m_is_whole) frzO (nCons (gn 0) nNil)) (g3 fLe fLe (gr 1) (gr 0) (gr 2))))
def m_is_number : List En -> Option En := mir N_is_number (g_is_number)
def N_is_name : List Str := ["thing"]
def e_is_name_0 : EnvD -> Option D := (g2 (fIn false) (gr 0) (g2 fPlus (gc (.str "abcdefghijklmnopqrstuvwxyz")) (gc (.str "0123456789"))))
def g_is_name : SD := (sSeq (sIf (gOr (gNot (gt (gIs "str" (gr 0)))) (gNot (gb' (g3 fLe fLe (gc (.int 1)) (gB fLen (gCons' (gr 0) gNil)) (gc (.int 8)))))) (sRet (gc (.bl false))) sNext) (sRet (gAndV (g2 (fIn false) (g2 fItem (gr 0) (gc (.int 0))) (gc (.str "abcdefghijklmnopqrstuvwxyz"))) (gB fAll (gCons' (gFz (gComp ["sign"] [] (.name 0) tYes e_is_name_0 (gItS (gr 0)))) gNil)))))
def m_is_name : List En -> Option En := mir N_is_name (g_is_name)
def N_check_queue : List Str := ["queue", "ahead", "name", "left"]
def b_check_queue_0 : SD := (sSeq (sIf (gNot (gt (gCall (len? 1 m_is_name) frzO (nCons (gn 2) nNil)))) sNever sNext) (sSeq (sIf (gb' (gInD false (gr 2) (gk' 1))) sNever sNext) (sSeq (sIf (gNot (gt (gCall (len? 3 m_is_number) frzO (nCons (gn 3) (nCons (gVal (gc (.int 1))) (nCons (gVal (gc (.int 20))) nNil)))))) sNever sNext) (sPutD 1 (gr 2) (gc (.bl true))))))
def g_check_queue : SD := (sSeq (sIf (gb' (g2 fGt (gB fLen (gCons' (gr 0) gNil)) (gc (.int 60)))) sNever sNext) (sSeq (sSetD 1 gNewD) (sSeq (sFor (.tup [2, 3]) (gIt (gf 0)) b_check_queue_0) (sRet (gc (.bl true))))))
def m_check_queue : List En -> Option En := mir N_check_queue (g_check_queue)
def xb_check_queue_0 : SD := (sSeq (sIf (gNot (gt (gCall (len? 1 m_is_name) frzO (nCons (gn 2) nNil)))) sNever sNext) (sSeq (sIf (gb' (gInD false (gr 2) (gk' 1))) sNever sNext) (sSeq (sIf (gNot (gt (gCall (len? 3 m_is_number) frzO (nCons (gn 3) (nCons (gVal (gc (.int 1))) (nCons (gVal (gc (.int 20))) nNil)))))) sNever sNext) (sPutD 1 (gr 2) (gc (.bl true))))))
def gx_check_queue : EnvD -> Option (EnvD × Xv) := (yAlt (yIf (gb' (g2 fGt (gB fLen (gCons' (gr 0) gNil)) (gc (.int 60)))) (yRaise0 "TooMany" (gc (.str "a queue has at most 60 tickets"))) yNo) (ySeq (sIf (gb' (g2 fGt (gB fLen (gCons' (gr 0) gNil)) (gc (.int 60)))) sNever sNext) (ySeq (sSetD 1 gNewD) (yFor (.tup [2, 3]) (gIt (gf 0)) xb_check_queue_0 (yAlt (yIf (gNot (gt (gCall (len? 1 m_is_name) frzO (nCons (gn 2) nNil)))) (yRaise0 "NoName" (gc (.str "a ticket has a name of 1 to 8 small letters and figures, a letter first"))) yNo) (ySeq (sIf (gNot (gt (gCall (len? 1 m_is_name) frzO (nCons (gn 2) nNil)))) sNever sNext) (yAlt (yIf (gb' (gInD false (gr 2) (gk' 1))) (yRaise "Doubled" (gv 2)) yNo) (ySeq (sIf (gb' (gInD false (gr 2) (gk' 1))) sNever sNext) (yIf (gNot (gt (gCall (len? 3 m_is_number) frzO (nCons (gn 3) (nCons (gVal (gc (.int 1))) (nCons (gVal (gc (.int 20))) nNil)))))) (yRaise0 "NoNumber" (gc (.str "of a ticket 1 to 20 turns are left"))) yNo)))))))))
def mx_check_queue : List En -> Option Xv := mirY N_check_queue 1 gx_check_queue
def N_l_cell : List Str := ["_law_script", "_law_k"]
def g_l_cell : SD := (sSeq (sIf (gb' (g2 fLt (gr 1) (gB fLen (gCons' (gr 0) gNil)))) (sRet (g2 fItem (gr 0) (gr 1))) sNext) (sRet (gc (.int 0))))
def m_l_cell : List En -> Option En := mir N_l_cell (g_l_cell)
def N_l_stir : List Str := ["_law_cell_here", "_law_k", "_law_number"]
def g_l_stir : SD := (sSeq (sSet 2 (g2 fMod (g2 fPlus (g2 fPlus (g2 fMul (g2 fMod (gr 0) (gc (.int 2147483647))) (gc (.int 48271))) (g2 fMul (gc (.int 69621)) (gr 1))) (gc (.int 7))) (gc (.int 2147483647)))) (sSeq (sSet 2 (g2 fMod (g2 fMul (gr 2) (gr 2)) (gc (.int 2147483629)))) (sRet (g2 fMod (g2 fPlus (g2 fPlus (g2 fMul (gr 2) (gr 2)) (g2 fMul (gc (.int 16807)) (gr 2))) (gc (.int 11))) (gc (.int 2147483587))))))
def m_l_stir : List En -> Option En := mir N_l_stir (g_l_stir)
def N_l_draw : List Str := ["_law_script", "_law_at", "_law_bases", "_law_cell_here", "_law_found", "_law_k", "_law_base"]
def b_l_draw_0 : SD := (sIf (gb' (g2 (fEq false) (g2 fAnd (g2 fShr (gCall (len? 2 m_l_cell) frzO (nCons (gn 0) (nCons (gVal (gc (.int 0))) nNil))) (g2 fMod (gr 1) (gc (.int 8)))) (gc (.int 1))) (gc (.int 0)))) (sSeq (sApp 4 (g2 fMod (gr 3) (gr 6))) (sSet 3 (g2 fDiv (gr 3) (gr 6)))) (sApp 4 (g2 fMod (g2 fDiv (gCall (len? 2 m_l_stir) frzO (nCons (gn 3) (nCons (gn 5) nNil))) (gc (.int 8))) (gr 6))))
def g_l_draw : SD := (sSeq (sSet 3 (gCall (len? 2 m_l_cell) frzO (nCons (gn 0) (nCons (gn 1) nNil)))) (sSeq (sSetA 4 (gLst gNil)) (sSeq (sFor (.tup [5, 6]) (gEn (gCons' (gf 2) gNil)) b_l_draw_0) (sRetV 4))))
def m_l_draw : List En -> Option En := mir N_l_draw (g_l_draw)
def N_l_name : List Str := ["_law_cell_here", "_law_k", "_law_signs", "_law_size", "_law_at", "_law_left", "_law_word", "_law_j"]
def b_l_name_0 : SD := (sSeq (sSet 6 (g2 fPlus (gr 6) (g2 fItem (gr 2) (g2 fMod (gr 5) (g2 fItem (gFz (gLst (gCons' (gc (.int 36)) (gCons' (gc (.int 26)) gNil)))) (gB fInt (gCons' (g2 (fEq false) (gr 7) (gc (.int 0))) gNil))))))) (sSet 5 (g2 fDiv (gr 5) (gc (.int 36)))))
def g_l_name : SD := (sSeq (sSet 2 (gc (.str "abcdefghijklmnopqrstuvwxyz0123456789"))) (sSeq (sSet 3 (g2 fMod (gr 0) (gc (.int 8)))) (sSeq (sSet 4 (g2 fMod (g2 fDiv (gr 0) (gc (.int 8))) (g2 fPlus (gr 3) (gc (.int 1))))) (sSeq (sSet 5 (g2 fDiv (gr 0) (gc (.int 72)))) (sSeq (sSet 6 (gc (.str ""))) (sSeq (sFor (.name 7) (gR1 (gCons' (gr 3) gNil)) b_l_name_0) (sRet (g2 fPlus (g2 fPlus (gSlS (gr 6) gNone (gSome (gr 4))) (g2 fItem (gr 2) (g2 fMod (g2 fPlus (gr 5) (gr 1)) (gc (.int 26))))) (gSlS (gr 6) (gSome (gr 4)) gNone)))))))))
def m_l_name : List En -> Option En := mir N_l_name (g_l_name)
def N_l_many_named : List Str := ["_law_cell_here", "_law_k"]
def g_l_many_named : SD := (sRet (g2 fPlus (gCall (len? 2 m_l_name) frzO (nCons (gVal (g2 fPlus (g2 fSub (gr 0) (g2 fMod (gr 0) (gc (.int 8)))) (g2 fMod (g2 fMod (gr 0) (gc (.int 8))) (gc (.int 7))))) (nCons (gVal (g2 fMod (gr 1) (gc (.int 26)))) nNil))) (gB fStr (gCons' (g2 fDiv (gr 1) (gc (.int 26))) gNil))))
def m_l_many_named : List En -> Option En := mir N_l_many_named (g_l_many_named)
def N_l_spoilt : List Str := ["_law_queue", "_law_drawn", "_law_at", "_law_name_here", "_law_left"]
def g_l_spoilt : SD := (sSeq (sSet 2 (g2 fMod (g2 fItem (gr 1) (gc (.int 0))) (gB fLen (gCons' (gr 0) gNil)))) (sSeq (sAsg (.tup [3, 4]) (g2 fItem (gr 0) (gr 2))) (sSeq (sIf (gb' (g2 (fEq false) (g2 fItem (gr 1) (gc (.int 1))) (gc (.int 0)))) (sSet 3 (g2 fItem (gFz (gLst (gK [.str "", .str "A", .str "1a", .str "abcdefghi", .str "a-b", .int 7, .non, .bl true, .tup [.str "a"], .lst [.str "a"], .emp, .lst []]))) (g2 fMod (g2 fItem (gr 1) (gc (.int 2))) (gc (.int 12))))) (sIf (gb' (g2 (fEq false) (g2 fItem (gr 1) (gc (.int 1))) (gc (.int 1)))) (sSet 3 (g2 fItem (g2 fItem (gr 0) (g2 fMod (g2 fItem (gr 1) (gc (.int 2))) (gB fLen (gCons' (gr 0) gNil)))) (gc (.int 0)))) (sSet 4 (g2 fItem (gFz (gLst (gK [.int 0, .int 21, .int (-3), .int 10000000000000000000000000, .bl true, .bl false, .non, .str "4", .lst [.int 4]]))) (g2 fMod (g2 fItem (gr 1) (gc (.int 2))) (gc (.int 9))))))) (sRetA (g2 fCatS (gFz (g2 fCatS (gFz (gSl (gr 0) gNone (gSome (gr 2)))) (gFz (gLst (gCons' (gTup' (gCons' (gv 3) (gCons' (gv 4) gNil))) gNil))))) (gFz (gSl (gr 0) (gSome (g2 fPlus (gr 2) (gc (.int 1)))) gNone)))))))
def m_l_spoilt : List En -> Option En := mir N_l_spoilt (g_l_spoilt)
def N_l_is_name : List Str := ["_law_thing", "_law_k", "_law_small"]
def b_l_is_name_0 : SD := (sSeq (sSet 2 (g3 fLeT fLeT (gc (.str "a")) (g2 fItem (gr 0) (gr 1)) (gc (.str "z")))) (sIf (gAnd (gNot (gt (gr 2))) (gOr (gb' (g2 (fEq false) (gr 1) (gc (.int 0)))) (gNot (gb' (g3 fLeT fLeT (gc (.str "0")) (g2 fItem (gr 0) (gr 1)) (gc (.str "9"))))))) (sRet (gc (.bl false))) sNext))
def g_l_is_name : SD := (sSeq (sIf (gOr (gNot (gt (gIs "str" (gr 0)))) (gOr (gb' (g2 fLt (gB fLen (gCons' (gr 0) gNil)) (gc (.int 1)))) (gb' (g2 fGt (gB fLen (gCons' (gr 0) gNil)) (gc (.int 8)))))) (sRet (gc (.bl false))) sNext) (sSeq (sFor (.name 1) (gR1 (gCons' (gB fLen (gCons' (gr 0) gNil)) gNil)) b_l_is_name_0) (sRet (gc (.bl true)))))
def m_l_is_name : List En -> Option En := mir N_l_is_name (g_l_is_name)
def N_l_due : List Str := ["_law_queue", "_law_known", "_law_name_here", "_law_left"]
def b_l_due_0 : SD := (sSeq (sIf (gNot (gt (gCall (len? 1 m_l_is_name) frzO (nCons (gn 2) nNil)))) (sRet (gTup' (gCons' (gc (.str "NoName")) (gCons' (gc .non) gNil)))) sNext) (sSeq (sIf (gb' (g2 (fIn false) (gr 2) (gr 1))) (sRet (gTup' (gCons' (gc (.str "Doubled")) (gCons' (gv 2) gNil)))) sNext) (sSeq (sIf (gOr (gNot (gt (gIs "int" (gr 3)))) (gOr (gt (gIs "bool" (gr 3))) (gOr (gb' (g2 fLt (gr 3) (gc (.int 1)))) (gb' (g2 fGt (gr 3) (gc (.int 20))))))) (sRet (gTup' (gCons' (gc (.str "NoNumber")) (gCons' (gc .non) gNil)))) sNext) (sApp 1 (gv 2)))))
def g_l_due : SD := (sSeq (sIf (gb' (g2 fGt (gB fLen (gCons' (gr 0) gNil)) (gc (.int 60)))) (sRet (gTup' (gCons' (gc (.str "TooMany")) (gCons' (gc .non) gNil)))) sNext) (sSeq (sSetA 1 (gLst gNil)) (sSeq (sFor (.tup [2, 3]) (gIt (gf 0)) b_l_due_0) (sRet (gTup' (gCons' (gc (.str "good")) (gCons' (gc .non) gNil)))))))
def m_l_due : List En -> Option En := mir N_l_due (g_l_due)
def N_l_kind : List Str := ["_law_e", "_law_words"]
def g_l_kind (ea : Addr) (isx : Nat -> Bool) : SD := (sSeq (sSetA 1 (gLst gNil)) (sSeq (sIf (gt (gIsE 0 ea (isx 4))) (sApp 1 (gc (.str "TooMany"))) sNext) (sSeq (sIf (gt (gIsE 0 ea (isx 3))) (sApp 1 (gc (.str "NoName"))) sNext) (sSeq (sIf (gt (gIsE 0 ea (isx 2))) (sApp 1 (gc (.str "Doubled"))) sNext) (sSeq (sIf (gt (gIsE 0 ea (isx 1))) (sApp 1 (gc (.str "NoNumber"))) sNext) (sSeq (sIf (gOr (gb' (g2 (fEq true) (gB fLen (gCons' (gr 1) gNil)) (gc (.int 1)))) (gNot (gt (gIsE 0 ea (isx 0))))) (sRet (gc (.str "none"))) sNext) (sRet (g2 fItem (gr 1) (gc (.int 0))))))))))
def m_l_kind (ea : Addr) (isx : Nat -> Bool) : List En -> Option En := mir N_l_kind (g_l_kind ea isx)
def N_l_told : List Str := ["_law_queue", "_law_word", "_law_name_here", "_law_e"]
def g_l_told : SD := (sSeq (sSet 1 (gc (.str "none"))) (sSeq (sSet 2 (gc .non)) (sSeq (sTryV [⟨some 3, [("Doubled", [(1, jCall m_l_kind (isxL [true, false, true, false, false])), (2, jPay)])]⟩, ⟨some 3, [("TooMany", [(1, jCall m_l_kind (isxL [true, false, false, false, true]))]), ("NoName", [(1, jCall m_l_kind (isxL [true, false, false, true, false]))]), ("NoNumber", [(1, jCall m_l_kind (isxL [true, true, false, false, false]))])]⟩] (sIf (gb' (g2 (fIsB false) (gCall (len? 1 m_check_queue) frzO (nCons (gn 0) nNil)) (gc (.bl true)))) (sSet 1 (gc (.str "good"))) sNext) (yE (yCall mx_check_queue (nCons (gn 0) nNil)))) (sRet (gTup' (gCons' (gv 1) (gCons' (gv 2) gNil)))))))
def m_l_told : List En -> Option En := mir N_l_told (g_l_told)
def N_law : List Str := ["_law_script", "_law_at", "_law_many", "_law_faults", "_law_left", "_law_step", "_law_queue", "_law_k", "_law_handed"]
def b_law_0 : SD := (sIf (gb' (g2 fNe0 (gr 6) (gFz (gLst gNil)))) (sSet 6 (gFz (gCall (len? 2 m_l_spoilt) accO (nCons (gn 6) (nCons (gVal (gFz (gCall (len? 3 m_l_draw) accO (nCons (gn 0) (nCons (gVal (g2 fPlus (g2 fPlus (gr 1) (gc (.int 18))) (g2 fMul (gc (.int 15)) (gr 7)))) (nCons (gVal (gFz (gLst (gCons' (gc (.int 63)) (gCons' (gc (.int 4)) (gCons' (gc (.int 72)) gNil)))))) nNil)))))) nNil))))) sNext)
def e_law_1 : EnvD -> Option D := (gTup' (gCons' (gCall (len? 2 m_l_many_named) frzO (nCons (gVal (gCall (len? 2 m_l_cell) frzO (nCons (gn 1) (nCons (gVal (gc (.int 1))) nNil)))) (nCons (gn 0) nNil))) (gCons' (g2 fPlus (gc (.int 1)) (g2 fMod (g2 fPlus (gr 2) (g2 fMul (gr 3) (gr 0))) (gc (.int 20)))) gNil)))
def b_law_2 : SD := (sSeq (sAsgL [2, 3, 4, 5] (gFz (gCall (len? 3 m_l_draw) accO (nCons (gn 0) (nCons (gn 1) (nCons (gVal (gFz (gLst (gCons' (gc (.int 64)) (gCons' (gc (.int 4)) (gCons' (gc (.int 20)) (gCons' (gc (.int 20)) gNil))))))) nNil)))))) (sSeq (sSet 6 (gFz (gComp ["_law_k"] [("_law_script", 0), ("_law_left", 4), ("_law_step", 5)] (.name 0) tYes e_law_1 (gR1 (gCons' (gr 2) gNil))))) (sSeq (sFor (.name 7) (gR1 (gCons' (gr 3) gNil)) b_law_0) (sSeq (sSet 8 (gFz (gB fList (gCons' (gr 6) gNil)))) (sIf (gOr (gb' (g2 (fEq true) (gCall (len? 1 m_l_told) frzO (nCons (gn 8) nNil)) (gCall (len? 1 m_l_due) frzO (nCons (gn 6) nNil)))) (gb' (g2 fNeS (gr 8) (gr 6)))) (sRet (gc (.bl false))) sNext)))))
def g_law : SD := (sSeq (sFor (.name 1) (gR2 (gCons' (gc (.int 2)) (gCons' (gB fMin (gCons' (gB fLen (gCons' (gr 0) gNil)) (gCons' (gc (.int 18)) gNil))) gNil))) b_law_2) (sRet (g2 (fEq false) (gCall (len? 1 m_l_told) frzO (nCons (gVal (gFz (gLst gNil))) nNil)) (gTup' (gCons' (gc (.str "good")) (gCons' (gc .non) gNil))))))
def m_law : List En -> Option En := mir N_law (g_law)
structure Txt (K : PySem.W.Frag) (mg : Str -> Option Value) (C : Addr) : Prop where
  b_ValueError : mg "ValueError" = none
  b_all : mg "all" = none
  b_bool : mg "bool" = none
  b_enumerate : mg "enumerate" = none
  b_int : mg "int" = none
  b_isinstance : mg "isinstance" = none
  b_len : mg "len" = none
  b_list : mg "list" = none
  b_min : mg "min" = none
  b_range : mg "range" = none
  b_str : mg "str" = none
  c_FIGURES' : ∃ t, mg "FIGURES" = some (.str "0123456789" t)
  c_LETTERS' : ∃ t, mg "LETTERS" = some (.str "abcdefghijklmnopqrstuvwxyz" t)
  c_MOST_LEFT' : ∃ t, mg "MOST_LEFT" = some (.int 20 t)
  c_MOST_SIGNS' : ∃ t, mg "MOST_SIGNS" = some (.int 8 t)
  c_MOST_TICKETS' : ∃ t, mg "MOST_TICKETS" = some (.int 60 t)
structure Exs (P : Program) (w : World) (K : PySem.W.Frag) (mg : Str -> Option Value) (base : Heap) (ca : Str -> Addr) : Prop where
  i_Doubled : ExI P w K mg base (ca "Doubled") (ca "HallError") "name"
  is_Doubled : XI K (ca "Doubled")
  is_NoName : XI K (ca "NoName")
  is_NoNumber : XI K (ca "NoNumber")
  is_TooMany : XI K (ca "TooMany")
  m_Doubled : mg "Doubled" = some (.ref (ca "Doubled"))
  m_HallError : mg "HallError" = some (.ref (ca "HallError"))
  m_NoName : mg "NoName" = some (.ref (ca "NoName"))
  m_NoNumber : mg "NoNumber" = some (.ref (ca "NoNumber"))
  m_TooMany : mg "TooMany" = some (.ref (ca "TooMany"))
  n_NoName_Doubled : XN K (ca "NoName") (ca "Doubled")
  n_NoNumber_Doubled : XN K (ca "NoNumber") (ca "Doubled")
  n_TooMany_Doubled : XN K (ca "TooMany") (ca "Doubled")
  t1_Doubled_ValueError : PySem.W.kitOne K (.ref (ca "Doubled")) (.type "ValueError") = some true
  t1_NoName_ValueError : PySem.W.kitOne K (.ref (ca "NoName")) (.type "ValueError") = some true
  t1_NoNumber_ValueError : PySem.W.kitOne K (.ref (ca "NoNumber")) (.type "ValueError") = some true
  t1_TooMany_ValueError : PySem.W.kitOne K (.ref (ca "TooMany")) (.type "ValueError") = some true
  x_NoName : XC0 K (ca "NoName")
  x_NoNumber : XC0 K (ca "NoNumber")
  x_TooMany : XC0 K (ca "TooMany")
  y_Doubled_Doubled : XM K (ca "Doubled") (ca "Doubled")
  y_NoName_HallError : XM K (ca "NoName") (ca "HallError")
  y_NoNumber_HallError : XM K (ca "NoNumber") (ca "HallError")
  y_TooMany_HallError : XM K (ca "TooMany") (ca "HallError")
  z0_Doubled_NoName : PySem.W.kitOne K (.ref (ca "Doubled")) (.ref (ca "NoName")) = some false
  z0_Doubled_NoNumber : PySem.W.kitOne K (.ref (ca "Doubled")) (.ref (ca "NoNumber")) = some false
  z0_Doubled_TooMany : PySem.W.kitOne K (.ref (ca "Doubled")) (.ref (ca "TooMany")) = some false
  z0_NoName_Doubled : PySem.W.kitOne K (.ref (ca "NoName")) (.ref (ca "Doubled")) = some false
  z0_NoName_NoNumber : PySem.W.kitOne K (.ref (ca "NoName")) (.ref (ca "NoNumber")) = some false
  z0_NoName_TooMany : PySem.W.kitOne K (.ref (ca "NoName")) (.ref (ca "TooMany")) = some false
  z0_NoNumber_Doubled : PySem.W.kitOne K (.ref (ca "NoNumber")) (.ref (ca "Doubled")) = some false
  z0_NoNumber_NoName : PySem.W.kitOne K (.ref (ca "NoNumber")) (.ref (ca "NoName")) = some false
  z0_NoNumber_TooMany : PySem.W.kitOne K (.ref (ca "NoNumber")) (.ref (ca "TooMany")) = some false
  z0_TooMany_Doubled : PySem.W.kitOne K (.ref (ca "TooMany")) (.ref (ca "Doubled")) = some false
  z0_TooMany_NoName : PySem.W.kitOne K (.ref (ca "TooMany")) (.ref (ca "NoName")) = some false
  z0_TooMany_NoNumber : PySem.W.kitOne K (.ref (ca "TooMany")) (.ref (ca "NoNumber")) = some false
  z1_Doubled_Doubled : PySem.W.kitOne K (.ref (ca "Doubled")) (.ref (ca "Doubled")) = some true
  z1_NoName_NoName : PySem.W.kitOne K (.ref (ca "NoName")) (.ref (ca "NoName")) = some true
  z1_NoNumber_NoNumber : PySem.W.kitOne K (.ref (ca "NoNumber")) (.ref (ca "NoNumber")) = some true
  z1_TooMany_TooMany : PySem.W.kitOne K (.ref (ca "TooMany")) (.ref (ca "TooMany")) = some true
section
variable {P : Program} {w : World} {K : PySem.W.Frag} {mg : Str -> Option Value} {base : Heap} {C : Addr}
theorem sc_is_whole : FnScope ["thing"] ["thing"] (defScope s_is_whole) := ⟨rfl, rfl, rfl, by decide +kernel, rfl, by decide +kernel, by decide +kernel⟩
theorem ok_is_whole {f : Addr} {fd : FuncData} (T : Txt K mg C) (F : Fun K "is_whole" "is_whole" s_is_whole f fd) : FnOk P w K mg base CX0 1 f fd ["thing"] (pSp ⟨K, w⟩ 1 (len? 1 (mir ["thing"] g_is_whole))) := by
  have sc := sc_is_whole
  refine fn_pure (k := 0) F sc_is_whole (fun cdv A outer s H E B hr => ?_)
  exact (dss_one (ds_ret (de_andv (de_isinst (kitT "int" (by decide)) (by rfl) T.b_isinstance (by rfl) T.b_int (by decide +kernel) (dr_var 0 (pv 0))) (de_one (de_notv (de_isinst (kitT "bool" (by decide)) (by rfl) T.b_isinstance (by rfl) T.b_bool (by decide +kernel) (dr_var 0 (pv 0))))))))
theorem sc_is_number : FnScope ["thing", "low", "high"] ["thing", "low", "high"] (defScope s_is_number) := ⟨rfl, rfl, rfl, by decide +kernel, rfl, by decide +kernel, by decide +kernel⟩
theorem ok_is_number {f : Addr} {fd : FuncData} (T : Txt K mg C) (F : Fun K "is_number" "is_number" s_is_number f fd) (h_is_whole : Fx P w K mg base "is_whole" 1 1 m_is_whole) : FnOk P w K mg base CX0 2 f fd ["thing", "low", "high"] (pSp ⟨K, w⟩ 3 (len? 3 (mir ["thing", "low", "high"] g_is_number))) := by
  have sc := sc_is_number
  refine fn_pure (k := 1) F sc_is_number (fun cdv A outer s H E B hr => ?_)
  exact (dss_one (ds_ret (de_andv (de_callF h_is_whole (hr.mono (by decide)) (by rfl) (dns_cons (dn_var 0 (pv 0)) dns_nil)) (de_one (de_chain op_le op_le ok_le ok_le (dr_var 1 (pv 1)) (dr_var 0 (pv 0)) (dr_var 2 (pv 2)))))))
theorem sc_is_name : FnScope ["thing"] ["thing"] (defScope s_is_name) := ⟨rfl, rfl, rfl, by decide +kernel, rfl, by decide +kernel, by decide +kernel⟩
theorem ok_is_name {f : Addr} {fd : FuncData} (T : Txt K mg C) (F : Fun K "is_name" "is_name" s_is_name f fd) : FnOk P w K mg base CX0 1 f fd ["thing"] (pSp ⟨K, w⟩ 1 (len? 1 (mir ["thing"] g_is_name))) := by
  obtain ⟨tok_FIGURES, t_FIGURES⟩ := T.c_FIGURES'
  obtain ⟨tok_LETTERS, t_LETTERS⟩ := T.c_LETTERS'
  obtain ⟨tok_MOST_SIGNS, t_MOST_SIGNS⟩ := T.c_MOST_SIGNS'
  have sc := sc_is_name
  refine fn_pure (k := 0) F sc_is_name (fun cdv A outer s H E B hr => ?_)
  exact (dss_cons (ds_if (dt_w (dw_or (dt_not (dt_truth (DE.read (de_isinst (kitT "str" (by decide)) (by rfl) T.b_isinstance (by rfl) T.b_str (by decide +kernel) (dr_var 0 (pv 0)))) (by intro _; rfl))) (dw_or1 (dt_not (dt_chain op_le op_le ok_le ok_le de_int.read (DE.read (de_len (by rfl) T.b_len (drs_cons (dr_var 0 (pv 0)) drs_nil))) (DE.read (de_glob (v := .int 8) (by rfl) t_MOST_SIGNS (by exact ⟨_, rfl⟩) (by intro _; rfl)))))))) (dss_one (ds_ret de_bl)) dss_nil) (dss_one (ds_ret (de_andv (de_cmp op_inA ok_in (DE.read (de_item2 (dr_var 0 (pv 0)) de_int.read (by intro _ _; rfl))) (DE.read (de_glob (v := .str "abcdefghijklmnopqrstuvwxyz") (by rfl) t_LETTERS (by exact ⟨_, rfl⟩) (by intro _; rfl))) (by rfl)) (de_one (de_all (by rfl) (by rfl) T.b_all (drs_cons (DA.read (da_comp (own := ["sign"]) (cap := []) (t := (.name 0)) (by rfl) (comp_scope (sc := (defScope s_is_name).names) (N := ["thing"]) (by rfl) (by rfl) (by rfl) (by decide +kernel)) (di_str (dr_var 0 (pv 0))) (by decide) (fun B' C' s₀ H₀ fp pn => ⟨(pg_name (i := 0) (show List.Nodup (["sign"] : List Str) from by decide +kernel) (by rfl) (by first|exact .inl rfl|exact .inr rfl)), difs_nil, (de_cmp op_inA ok_in (dr_var 0 (pv 0)) (DE.read (de_plus (DE.read (de_glob (v := .str "abcdefghijklmnopqrstuvwxyz") (by rfl) t_LETTERS (by exact ⟨_, rfl⟩) (by intro _; rfl))) (DE.read (de_glob (v := .str "0123456789") (by rfl) t_FIGURES (by exact ⟨_, rfl⟩) (by intro _; rfl))))) (by rfl))⟩))) drs_nil)))))))
theorem sc_check_queue : FnScope ["queue", "ahead", "name", "left"] ["queue"] (defScope s_check_queue) := ⟨rfl, rfl, rfl, by decide +kernel, rfl, by decide +kernel, by decide +kernel⟩
theorem ok_check_queue {f : Addr} {fd : FuncData} (T : Txt K mg C) (F : Fun K "check_queue" "check_queue" s_check_queue f fd) (h_is_number : Fx P w K mg base "is_number" 2 3 m_is_number) (h_is_name : Fx P w K mg base "is_name" 1 1 m_is_name) : FnOk P w K mg base CX0 3 f fd ["queue"] (pSp ⟨K, w⟩ 1 (len? 1 (mir ["queue", "ahead", "name", "left"] g_check_queue))) := by
  obtain ⟨tok_MOST_LEFT, t_MOST_LEFT⟩ := T.c_MOST_LEFT'
  obtain ⟨tok_MOST_TICKETS, t_MOST_TICKETS⟩ := T.c_MOST_TICKETS'
  have sc := sc_check_queue
  refine fn_pure (k := 2) F sc_check_queue (fun cdv A outer s H E B hr => ?_)
  exact (dss_cons (ds_if (dt_cmp op_gt ok_gt (DE.read (de_len (by rfl) T.b_len (drs_cons (dr_var 0 (pv 0)) drs_nil))) (DE.read (de_glob (v := .int 60) (by rfl) t_MOST_TICKETS (by exact ⟨_, rfl⟩) (by intro _; rfl))) (nomark _)) (dss_one ds_never) dss_nil) (dss_cons (ds_setD (j := 1) sc.nd (by rfl) (by first|exact .inl rfl|exact .inr rfl) dd_new) (dss_cons (ds_for (t := (.tup [2, 3])) PassesOwn.never (by rfl) (di_list hb0 (dq_var 0 (pv 0))) (pg_tup (by rfl) (pgs_cons (pg_name (i := 2) sc.nd (by rfl) (by first|exact .inl rfl|exact .inr rfl)) (pgs_cons (pg_name (i := 3) sc.nd (by rfl) (by first|exact .inl rfl|exact .inr rfl)) pgs_nil))) (dss_cons (ds_if (dt_not (dt_truth (DE.read (de_callF h_is_name (hr.mono (by decide)) (by rfl) (dns_cons (dn_var 2 (pv 2)) dns_nil))) (by intro _; rfl))) (dss_one ds_never) dss_nil) (dss_cons (ds_if (dt_inD (dr_var 2 (pv 2)) (dk_var 1 (pv 1))) (dss_one ds_never) dss_nil) (dss_cons (ds_if (dt_not (dt_truth (DE.read (de_callF h_is_number (hr.mono (by decide)) (by rfl) (dns_cons (dn_var 3 (pv 3)) (dns_cons (dn_val de_int) (dns_cons (dn_val (de_glob (v := .int 20) (by rfl) t_MOST_LEFT (by exact ⟨_, rfl⟩) (by intro _; rfl))) dns_nil))))) (by intro _; rfl))) (dss_one ds_never) dss_nil) (dss_one (ds_putD 1 (pv 1) (dr_var 2 (pv 2)) de_bl)))))) (dss_one (ds_ret de_bl)))))
theorem okx_check_queue {f : Addr} {fd : FuncData} (T : Txt K mg C) (F : Fun K "check_queue" "check_queue" s_check_queue f fd) {ca : Str -> Addr} (U : Exs P w K mg base ca) (h_is_name : Fx P w K mg base "is_name" 1 1 m_is_name) (h_is_number : Fx P w K mg base "is_number" 2 3 m_is_number) : FnOk P w K mg base (CX1 P w) 3 f fd ["queue"] (ySp ⟨K, w⟩ ca "name" 1 (mirY ["queue", "ahead", "name", "left"] 1 gx_check_queue)) := by
  obtain ⟨tok_MOST_LEFT, t_MOST_LEFT⟩ := T.c_MOST_LEFT'
  obtain ⟨tok_MOST_TICKETS, t_MOST_TICKETS⟩ := T.c_MOST_TICKETS'
  obtain ⟨fI_Doubled, xc_Doubled, f0_Doubled, ps_Doubled, FI_Doubled, bI_Doubled⟩ := U.i_Doubled
  have sc := sc_check_queue
  refine fn_raiseY (k := 2) F sc_check_queue (fun cdv A outer s H E B pn hr => ?_)
  exact (dvs_alt (dvs_if (dt_cmp op_gt ok_gt (DE.read (de_len (by rfl) T.b_len (drs_cons (dr_var 0 (pv 0)) drs_nil))) (DE.read (de_glob (v := .int 60) (by rfl) t_MOST_TICKETS (by exact ⟨_, rfl⟩) (by intro _; rfl))) (nomark _)) (dvs_raise0 (nm := "TooMany") rfl rfl U.x_TooMany (by rfl) U.m_TooMany de_str) dvs_no) (dvs_seq (ds_if (dt_cmp op_gt ok_gt (DE.read (de_len (by rfl) T.b_len (drs_cons (dr_var 0 (pv 0)) drs_nil))) (DE.read (de_glob (v := .int 60) (by rfl) t_MOST_TICKETS (by exact ⟨_, rfl⟩) (by intro _; rfl))) (nomark _)) (dss_one ds_never) dss_nil) (dvs_seq (ds_setD (j := 1) sc.nd (by rfl) (by first|exact .inl rfl|exact .inr rfl) dd_new) (dvs_for (t := (.tup [2, 3])) (passes_WX ⟨rfl, rfl⟩) (by rfl) (di_list hb0 (dq_var 0 (pv 0))) (pg_tup (by rfl) (pgs_cons (pg_name (i := 2) sc.nd (by rfl) (by first|exact .inl rfl|exact .inr rfl)) (pgs_cons (pg_name (i := 3) sc.nd (by rfl) (by first|exact .inl rfl|exact .inr rfl)) pgs_nil))) (dss_cons (ds_if (dt_not (dt_truth (DE.read (de_callF h_is_name (hr.mono (by decide)) (by rfl) (dns_cons (dn_var 2 (pv 2)) dns_nil))) (by intro _; rfl))) (dss_one ds_never) dss_nil) (dss_cons (ds_if (dt_inD (dr_var 2 (pv 2)) (dk_var 1 (pv 1))) (dss_one ds_never) dss_nil) (dss_cons (ds_if (dt_not (dt_truth (DE.read (de_callF h_is_number (hr.mono (by decide)) (by rfl) (dns_cons (dn_var 3 (pv 3)) (dns_cons (dn_val de_int) (dns_cons (dn_val (de_glob (v := .int 20) (by rfl) t_MOST_LEFT (by exact ⟨_, rfl⟩) (by intro _; rfl))) dns_nil))))) (by intro _; rfl))) (dss_one ds_never) dss_nil) (dss_one (ds_putD 1 (pv 1) (dr_var 2 (pv 2)) de_bl))))) (dvs_alt (dvs_if (dt_not (dt_truth (DE.read (de_callF h_is_name (hr.mono (by decide)) (by rfl) (dns_cons (dn_var 2 (pv 2)) dns_nil))) (by intro _; rfl))) (dvs_raise0 (nm := "NoName") rfl rfl U.x_NoName (by rfl) U.m_NoName de_str) dvs_no) (dvs_seq (ds_if (dt_not (dt_truth (DE.read (de_callF h_is_name (hr.mono (by decide)) (by rfl) (dns_cons (dn_var 2 (pv 2)) dns_nil))) (by intro _; rfl))) (dss_one ds_never) dss_nil) (dvs_alt (dvs_if (dt_inD (dr_var 2 (pv 2)) (dk_var 1 (pv 1))) (dvs_raise (nm := "Doubled") rfl rfl xc_Doubled FI_Doubled bI_Doubled (hr.mono (by decide)) (by rfl) U.m_Doubled (de_var 2 (pv 2))) dvs_no) (dvs_seq (ds_if (dt_inD (dr_var 2 (pv 2)) (dk_var 1 (pv 1))) (dss_one ds_never) dss_nil) (dvs_if (dt_not (dt_truth (DE.read (de_callF h_is_number (hr.mono (by decide)) (by rfl) (dns_cons (dn_var 3 (pv 3)) (dns_cons (dn_val de_int) (dns_cons (dn_val (de_glob (v := .int 20) (by rfl) t_MOST_LEFT (by exact ⟨_, rfl⟩) (by intro _; rfl))) dns_nil))))) (by intro _; rfl))) (dvs_raise0 (nm := "NoNumber") rfl rfl U.x_NoNumber (by rfl) U.m_NoNumber de_str) dvs_no)))))))))
theorem sc_l_cell : FnScope ["_law_script", "_law_k"] ["_law_script", "_law_k"] (defScope s_l_cell) := ⟨rfl, rfl, rfl, by decide +kernel, rfl, by decide +kernel, by decide +kernel⟩
theorem ok_l_cell {f : Addr} {fd : FuncData} (T : Txt K mg C) (F : Fun K "_law_cell" "_law_cell" s_l_cell f fd) : FnOk P w K mg base CX0 1 f fd ["_law_script", "_law_k"] (pSp ⟨K, w⟩ 2 (len? 2 (mir ["_law_script", "_law_k"] g_l_cell))) := by
  have sc := sc_l_cell
  refine fn_pure (k := 0) F sc_l_cell (fun cdv A outer s H E B hr => ?_)
  exact (dss_cons (ds_if (dt_cmp op_lt ok_lt (dr_var 1 (pv 1)) (DE.read (de_len (by rfl) T.b_len (drs_cons (dr_var 0 (pv 0)) drs_nil))) (nomark _)) (dss_one (ds_ret (de_item2 (dr_var 0 (pv 0)) (dr_var 1 (pv 1)) (by intro _ _; rfl)))) dss_nil) (dss_one (ds_ret de_int)))
theorem sc_l_stir : FnScope ["_law_cell_here", "_law_k", "_law_number"] ["_law_cell_here", "_law_k"] (defScope s_l_stir) := ⟨rfl, rfl, rfl, by decide +kernel, rfl, by decide +kernel, by decide +kernel⟩
theorem ok_l_stir {f : Addr} {fd : FuncData} (T : Txt K mg C) (F : Fun K "_law_stir" "_law_stir" s_l_stir f fd) : FnOk P w K mg base CX0 1 f fd ["_law_cell_here", "_law_k"] (pSp ⟨K, w⟩ 2 (len? 2 (mir ["_law_cell_here", "_law_k", "_law_number"] g_l_stir))) := by
  have sc := sc_l_stir
  refine fn_pure (k := 0) F sc_l_stir (fun cdv A outer s H E B hr => ?_)
  exact (dss_cons (ds_set (i := 2) sc.nd (by rfl) (by first|exact .inl rfl|exact .inr rfl) (de_mod (DE.read (de_plus (DE.read (de_plus (DE.read (de_mul (DE.read (de_mod (dr_var 0 (pv 0)) de_int.read)) de_int.read)) (DE.read (de_mul de_int.read (dr_var 1 (pv 1)))))) de_int.read)) de_int.read)) (dss_cons (ds_set (i := 2) sc.nd (by rfl) (by first|exact .inl rfl|exact .inr rfl) (de_mod (DE.read (de_mul (dr_var 2 (pv 2)) (dr_var 2 (pv 2)))) de_int.read)) (dss_one (ds_ret (de_mod (DE.read (de_plus (DE.read (de_plus (DE.read (de_mul (dr_var 2 (pv 2)) (dr_var 2 (pv 2)))) (DE.read (de_mul de_int.read (dr_var 2 (pv 2)))))) de_int.read)) de_int.read)))))
theorem sc_l_draw : FnScope ["_law_script", "_law_at", "_law_bases", "_law_cell_here", "_law_found", "_law_k", "_law_base"] ["_law_script", "_law_at", "_law_bases"] (defScope s_l_draw) := ⟨rfl, rfl, rfl, by decide +kernel, rfl, by decide +kernel, by decide +kernel⟩
theorem ok_l_draw {f : Addr} {fd : FuncData} (T : Txt K mg C) (F : Fun K "_law_draw" "_law_draw" s_l_draw f fd) (h_l_cell : Fx P w K mg base "_law_cell" 1 2 m_l_cell) (h_l_stir : Fx P w K mg base "_law_stir" 1 2 m_l_stir) : FnOk P w K mg base CX0 2 f fd ["_law_script", "_law_at", "_law_bases"] (pSp ⟨K, w⟩ 3 (len? 3 (mir ["_law_script", "_law_at", "_law_bases", "_law_cell_here", "_law_found", "_law_k", "_law_base"] g_l_draw))) := by
  have sc := sc_l_draw
  refine fn_pure (k := 1) F sc_l_draw (fun cdv A outer s H E B hr => ?_)
  exact (dss_cons (ds_set (i := 3) sc.nd (by rfl) (by first|exact .inl rfl|exact .inr rfl) (de_callF h_l_cell (hr.mono (by decide)) (by rfl) (dns_cons (dn_var 0 (pv 0)) (dns_cons (dn_var 1 (pv 1)) dns_nil)))) (dss_cons (ds_setA (i := 4) sc.nd (by rfl) (by first|exact .inl rfl|exact .inr rfl) (da_lst das_nil)) (dss_cons (ds_for (t := (.tup [5, 6])) PassesOwn.never (by rfl) (di_enum hb0 (by rfl) T.b_enumerate (dqs_cons hb0 (dq_var 2 (pv 2)) dqs_nil)) (pg_tup (by rfl) (pgs_cons (pg_name (i := 5) sc.nd (by rfl) (by first|exact .inl rfl|exact .inr rfl)) (pgs_cons (pg_name (i := 6) sc.nd (by rfl) (by first|exact .inl rfl|exact .inr rfl)) pgs_nil))) (dss_one (ds_if (dt_cmp (op_eqD hr.units) ok_eq (DE.read (de_and' (DE.read (de_shr (DE.read (de_callF h_l_cell (hr.mono (by decide)) (by rfl) (dns_cons (dn_var 0 (pv 0)) (dns_cons (dn_val de_int) dns_nil)))) (DE.read (de_mod (dr_var 1 (pv 1)) de_int.read)))) de_int.read)) de_int.read (nomark _)) (dss_cons (ds_app 4 (pv 4) (de_mod (dr_var 3 (pv 3)) (dr_var 6 (pv 6)))) (dss_one (ds_set (i := 3) sc.nd (by rfl) (by first|exact .inl rfl|exact .inr rfl) (de_div (dr_var 3 (pv 3)) (dr_var 6 (pv 6)))))) (dss_one (ds_app 4 (pv 4) (de_mod (DE.read (de_div (DE.read (de_callF h_l_stir (hr.mono (by decide)) (by rfl) (dns_cons (dn_var 3 (pv 3)) (dns_cons (dn_var 5 (pv 5)) dns_nil)))) de_int.read)) (dr_var 6 (pv 6)))))))) (dss_one (ds_retV 4 (pv 4))))))
theorem sc_l_name : FnScope ["_law_cell_here", "_law_k", "_law_signs", "_law_size", "_law_at", "_law_left", "_law_word", "_law_j"] ["_law_cell_here", "_law_k"] (defScope s_l_name) := ⟨rfl, rfl, rfl, by decide +kernel, rfl, by decide +kernel, by decide +kernel⟩
theorem ok_l_name {f : Addr} {fd : FuncData} (T : Txt K mg C) (F : Fun K "_law_name" "_law_name" s_l_name f fd) : FnOk P w K mg base CX0 1 f fd ["_law_cell_here", "_law_k"] (pSp ⟨K, w⟩ 2 (len? 2 (mir ["_law_cell_here", "_law_k", "_law_signs", "_law_size", "_law_at", "_law_left", "_law_word", "_law_j"] g_l_name))) := by
  have sc := sc_l_name
  refine fn_pure (k := 0) F sc_l_name (fun cdv A outer s H E B hr => ?_)
  exact (dss_cons (ds_set (i := 2) sc.nd (by rfl) (by first|exact .inl rfl|exact .inr rfl) de_str) (dss_cons (ds_set (i := 3) sc.nd (by rfl) (by first|exact .inl rfl|exact .inr rfl) (de_mod (dr_var 0 (pv 0)) de_int.read)) (dss_cons (ds_set (i := 4) sc.nd (by rfl) (by first|exact .inl rfl|exact .inr rfl) (de_mod (DE.read (de_div (dr_var 0 (pv 0)) de_int.read)) (DE.read (de_plus (dr_var 3 (pv 3)) de_int.read)))) (dss_cons (ds_set (i := 5) sc.nd (by rfl) (by first|exact .inl rfl|exact .inr rfl) (de_div (dr_var 0 (pv 0)) de_int.read)) (dss_cons (ds_set (i := 6) sc.nd (by rfl) (by first|exact .inl rfl|exact .inr rfl) de_str) (dss_cons (ds_for (t := (.name 7)) PassesOwn.never (by rfl) (di_rng1 (by rfl) T.b_range (drs_cons (dr_var 3 (pv 3)) drs_nil)) (pg_name (i := 7) sc.nd (by rfl) (by first|exact .inl rfl|exact .inr rfl)) (dss_cons (ds_set (i := 6) sc.nd (by rfl) (by first|exact .inl rfl|exact .inr rfl) (de_plus (dr_var 6 (pv 6)) (DE.read (de_item2 (dr_var 2 (pv 2)) (DE.read (de_mod (dr_var 5 (pv 5)) (DE.read (de_item2 (DA.read (da_lst (das_cons de_int (das_cons de_int das_nil)))) (DE.read (de_intc (by rfl) T.b_int (drs_cons (DE.read (de_cmp (op_eqD hr.units) ok_eq (dr_var 7 (pv 7)) de_int.read (nomark _))) drs_nil))) (by intro _ _; rfl))))) (by intro _ _; rfl))))) (dss_one (ds_set (i := 5) sc.nd (by rfl) (by first|exact .inl rfl|exact .inr rfl) (de_div (dr_var 5 (pv 5)) de_int.read))))) (dss_one (ds_ret (de_plus (DE.read (de_plus (DE.read (de_sliceS (dr_var 6 (pv 6)) do_none (do_some (dr_var 4 (pv 4))))) (DE.read (de_item2 (dr_var 2 (pv 2)) (DE.read (de_mod (DE.read (de_plus (dr_var 5 (pv 5)) (dr_var 1 (pv 1)))) de_int.read)) (by intro _ _; rfl))))) (DE.read (de_sliceS (dr_var 6 (pv 6)) (do_some (dr_var 4 (pv 4))) do_none)))))))))))
theorem sc_l_many_named : FnScope ["_law_cell_here", "_law_k"] ["_law_cell_here", "_law_k"] (defScope s_l_many_named) := ⟨rfl, rfl, rfl, by decide +kernel, rfl, by decide +kernel, by decide +kernel⟩
theorem ok_l_many_named {f : Addr} {fd : FuncData} (T : Txt K mg C) (F : Fun K "_law_many_named" "_law_many_named" s_l_many_named f fd) (h_l_name : Fx P w K mg base "_law_name" 1 2 m_l_name) : FnOk P w K mg base CX0 2 f fd ["_law_cell_here", "_law_k"] (pSp ⟨K, w⟩ 2 (len? 2 (mir ["_law_cell_here", "_law_k"] g_l_many_named))) := by
  have sc := sc_l_many_named
  refine fn_pure (k := 1) F sc_l_many_named (fun cdv A outer s H E B hr => ?_)
  exact (dss_one (ds_ret (de_plus (DE.read (de_callF h_l_name (hr.mono (by decide)) (by rfl) (dns_cons (dn_val (de_plus (DE.read (de_sub (dr_var 0 (pv 0)) (DE.read (de_mod (dr_var 0 (pv 0)) de_int.read)))) (DE.read (de_mod (DE.read (de_mod (dr_var 0 (pv 0)) de_int.read)) de_int.read)))) (dns_cons (dn_val (de_mod (dr_var 1 (pv 1)) de_int.read)) dns_nil)))) (DE.read (de_strc (by rfl) T.b_str (drs_cons (DE.read (de_div (dr_var 1 (pv 1)) de_int.read)) drs_nil))))))
theorem sc_l_spoilt : FnScope ["_law_queue", "_law_drawn", "_law_at", "_law_name_here", "_law_left"] ["_law_queue", "_law_drawn"] (defScope s_l_spoilt) := ⟨rfl, rfl, rfl, by decide +kernel, rfl, by decide +kernel, by decide +kernel⟩
theorem ok_l_spoilt {f : Addr} {fd : FuncData} (T : Txt K mg C) (F : Fun K "_law_spoilt" "_law_spoilt" s_l_spoilt f fd) : FnOk P w K mg base CX0 1 f fd ["_law_queue", "_law_drawn"] (pSp ⟨K, w⟩ 2 (len? 2 (mir ["_law_queue", "_law_drawn", "_law_at", "_law_name_here", "_law_left"] g_l_spoilt))) := by
  have sc := sc_l_spoilt
  refine fn_pure (k := 0) F sc_l_spoilt (fun cdv A outer s H E B hr => ?_)
  exact (by refine dss_cons ?_ ?_; (exact (ds_set (i := 2) sc.nd (by rfl) (by first|exact .inl rfl|exact .inr rfl) (de_mod (DE.read (de_item2 (dr_var 1 (pv 1)) de_int.read (by intro _ _; rfl))) (DE.read (de_len (by rfl) T.b_len (drs_cons (dr_var 0 (pv 0)) drs_nil)))))); (refine dss_cons ?_ ?_; (exact (ds_asg (t := (.tup [3, 4])) (de_item2 (dr_var 0 (pv 0)) (dr_var 2 (pv 2)) (by intro _ _; rfl)) (pg_tup (by rfl) (pgs_cons (pg_name (i := 3) sc.nd (by rfl) (by first|exact .inl rfl|exact .inr rfl)) (pgs_cons (pg_name (i := 4) sc.nd (by rfl) (by first|exact .inl rfl|exact .inr rfl)) pgs_nil))))); (refine dss_cons ?_ ?_; (refine ds_if ?_ ?_ ?_; exact (dt_cmp (op_eqD hr.units) ok_eq (DE.read (de_item2 (dr_var 1 (pv 1)) de_int.read (by intro _ _; rfl))) de_int.read (nomark _)); (refine dss_one ?_; (refine ds_set (i := 3) ?_ ?_ ?_ ?_ ?_ ?_; exact sc.nd; rfl; (first | exact Or.inl rfl | exact Or.inr rfl); (refine de_item2 ?_ ?_ ?_; (refine DA.read ?_; refine da_con ?_; with_unfolding_all rfl); exact (DE.read (de_mod (DE.read (de_item2 (dr_var 1 (pv 1)) de_int.read (by intro _ _; rfl))) de_int.read)); (intro _ _; rfl)); rfl; (first | exact Or.inl rfl | exact Or.inr rfl))); (refine dss_one ?_; (refine ds_if ?_ ?_ ?_; exact (dt_cmp (op_eqD hr.units) ok_eq (DE.read (de_item2 (dr_var 1 (pv 1)) de_int.read (by intro _ _; rfl))) de_int.read (nomark _)); (refine dss_one ?_; (exact (ds_set (i := 3) sc.nd (by rfl) (by first|exact .inl rfl|exact .inr rfl) (de_item2 (DE.read (de_item2 (dr_var 0 (pv 0)) (DE.read (de_mod (DE.read (de_item2 (dr_var 1 (pv 1)) de_int.read (by intro _ _; rfl))) (DE.read (de_len (by rfl) T.b_len (drs_cons (dr_var 0 (pv 0)) drs_nil))))) (by intro _ _; rfl))) de_int.read (by intro _ _; rfl))))); (refine dss_one ?_; (refine ds_set (i := 4) ?_ ?_ ?_ ?_ ?_ ?_; exact sc.nd; rfl; (first | exact Or.inl rfl | exact Or.inr rfl); (refine de_item2 ?_ ?_ ?_; (refine DA.read ?_; refine da_con ?_; with_unfolding_all rfl); exact (DE.read (de_mod (DE.read (de_item2 (dr_var 1 (pv 1)) de_int.read (by intro _ _; rfl))) de_int.read)); (intro _ _; rfl)); rfl; (first | exact Or.inl rfl | exact Or.inr rfl)))))); (refine dss_one ?_; (exact (ds_retA (da_catS (DA.read (da_catS (DA.read (da_slice (dr_var 0 (pv 0)) do_none (do_some (dr_var 2 (pv 2))))) (DA.read (da_lst (das_cons (de_tup (das_cons (de_var 3 (pv 3)) (das_cons (de_var 4 (pv 4)) das_nil))) das_nil))))) (DA.read (da_slice (dr_var 0 (pv 0)) (do_some (DE.read (de_plus (dr_var 2 (pv 2)) de_int.read))) do_none)))))))))
theorem sc_l_is_name : FnScope ["_law_thing", "_law_k", "_law_small"] ["_law_thing"] (defScope s_l_is_name) := ⟨rfl, rfl, rfl, by decide +kernel, rfl, by decide +kernel, by decide +kernel⟩
theorem ok_l_is_name {f : Addr} {fd : FuncData} (T : Txt K mg C) (F : Fun K "_law_is_name" "_law_is_name" s_l_is_name f fd) : FnOk P w K mg base CX0 1 f fd ["_law_thing"] (pSp ⟨K, w⟩ 1 (len? 1 (mir ["_law_thing", "_law_k", "_law_small"] g_l_is_name))) := by
  have sc := sc_l_is_name
  refine fn_pure (k := 0) F sc_l_is_name (fun cdv A outer s H E B hr => ?_)
  exact (dss_cons (ds_if (dt_w (dw_or (dt_not (dt_truth (DE.read (de_isinst (kitT "str" (by decide)) (by rfl) T.b_isinstance (by rfl) T.b_str (by decide +kernel) (dr_var 0 (pv 0)))) (by intro _; rfl))) (dw_or (dt_cmp op_lt ok_lt (DE.read (de_len (by rfl) T.b_len (drs_cons (dr_var 0 (pv 0)) drs_nil))) de_int.read (nomark _)) (dw_or1 (dt_cmp op_gt ok_gt (DE.read (de_len (by rfl) T.b_len (drs_cons (dr_var 0 (pv 0)) drs_nil))) de_int.read (nomark _)))))) (dss_one (ds_ret de_bl)) dss_nil) (dss_cons (ds_for (t := (.name 1)) PassesOwn.never (by rfl) (di_rng1 (by rfl) T.b_range (drs_cons (DE.read (de_len (by rfl) T.b_len (drs_cons (dr_var 0 (pv 0)) drs_nil))) drs_nil)) (pg_name (i := 1) sc.nd (by rfl) (by first|exact .inl rfl|exact .inr rfl)) (dss_cons (ds_set (i := 2) sc.nd (by rfl) (by first|exact .inl rfl|exact .inr rfl) (de_chain op_leS op_leS ok_leS ok_leS (DE.read de_str) (DE.read (de_item2 (dr_var 0 (pv 0)) (dr_var 1 (pv 1)) (by intro _ _; rfl))) (DE.read de_str))) (dss_one (ds_if (dt_w (dw_and (dt_not (dt_truth (dr_var 2 (pv 2)) (by intro _; rfl))) (dw_and1 (dt_w (dw_or (dt_cmp (op_eqD hr.units) ok_eq (dr_var 1 (pv 1)) de_int.read (nomark _)) (dw_or1 (dt_not (dt_chain op_leS op_leS ok_leS ok_leS (DE.read de_str) (DE.read (de_item2 (dr_var 0 (pv 0)) (dr_var 1 (pv 1)) (by intro _ _; rfl))) (DE.read de_str))))))))) (dss_one (ds_ret de_bl)) dss_nil)))) (dss_one (ds_ret de_bl))))
theorem sc_l_due : FnScope ["_law_queue", "_law_known", "_law_name_here", "_law_left"] ["_law_queue"] (defScope s_l_due) := ⟨rfl, rfl, rfl, by decide +kernel, rfl, by decide +kernel, by decide +kernel⟩
theorem ok_l_due {f : Addr} {fd : FuncData} (T : Txt K mg C) (F : Fun K "_law_due" "_law_due" s_l_due f fd) (h_l_is_name : Fx P w K mg base "_law_is_name" 1 1 m_l_is_name) : FnOk P w K mg base CX0 2 f fd ["_law_queue"] (pSp ⟨K, w⟩ 1 (len? 1 (mir ["_law_queue", "_law_known", "_law_name_here", "_law_left"] g_l_due))) := by
  have sc := sc_l_due
  refine fn_pure (k := 1) F sc_l_due (fun cdv A outer s H E B hr => ?_)
  exact (dss_cons (ds_if (dt_cmp op_gt ok_gt (DE.read (de_len (by rfl) T.b_len (drs_cons (dr_var 0 (pv 0)) drs_nil))) de_int.read (nomark _)) (dss_one (ds_ret (de_tup (das_cons de_str (das_cons de_non das_nil))))) dss_nil) (dss_cons (ds_setA (i := 1) sc.nd (by rfl) (by first|exact .inl rfl|exact .inr rfl) (da_lst das_nil)) (dss_cons (ds_for (t := (.tup [2, 3])) PassesOwn.never (by rfl) (di_list hb0 (dq_var 0 (pv 0))) (pg_tup (by rfl) (pgs_cons (pg_name (i := 2) sc.nd (by rfl) (by first|exact .inl rfl|exact .inr rfl)) (pgs_cons (pg_name (i := 3) sc.nd (by rfl) (by first|exact .inl rfl|exact .inr rfl)) pgs_nil))) (dss_cons (ds_if (dt_not (dt_truth (DE.read (de_callF h_l_is_name (hr.mono (by decide)) (by rfl) (dns_cons (dn_var 2 (pv 2)) dns_nil))) (by intro _; rfl))) (dss_one (ds_ret (de_tup (das_cons de_str (das_cons de_non das_nil))))) dss_nil) (dss_cons (ds_if (dt_cmp op_inA ok_in (dr_var 2 (pv 2)) (dr_var 1 (pv 1)) (by rfl)) (dss_one (ds_ret (de_tup (das_cons de_str (das_cons (de_var 2 (pv 2)) das_nil))))) dss_nil) (dss_cons (ds_if (dt_w (dw_or (dt_not (dt_truth (DE.read (de_isinst (kitT "int" (by decide)) (by rfl) T.b_isinstance (by rfl) T.b_int (by decide +kernel) (dr_var 3 (pv 3)))) (by intro _; rfl))) (dw_or (dt_truth (DE.read (de_isinst (kitT "bool" (by decide)) (by rfl) T.b_isinstance (by rfl) T.b_bool (by decide +kernel) (dr_var 3 (pv 3)))) (by intro _; rfl)) (dw_or (dt_cmp op_lt ok_lt (dr_var 3 (pv 3)) de_int.read (nomark _)) (dw_or1 (dt_cmp op_gt ok_gt (dr_var 3 (pv 3)) de_int.read (nomark _))))))) (dss_one (ds_ret (de_tup (das_cons de_str (das_cons de_non das_nil))))) dss_nil) (dss_one (ds_app 1 (pv 1) (de_var 2 (pv 2)))))))) (dss_one (ds_ret (de_tup (das_cons de_str (das_cons de_non das_nil))))))))
theorem sc_l_kind : FnScope ["_law_e", "_law_words"] ["_law_e"] (defScope s_l_kind) := ⟨rfl, rfl, rfl, by decide +kernel, rfl, by decide +kernel, by decide +kernel⟩
theorem ok_l_kind {f : Addr} {fd : FuncData} (T : Txt K mg C) (F : Fun K "_law_kind" "_law_kind" s_l_kind f fd) {ca : Str -> Addr} (U : Exs P w K mg base ca) : FnE P w K mg base 1 f fd ["_law_e"] (eSp ⟨K, w⟩ "name" [.type "ValueError", .ref (ca "NoNumber"), .ref (ca "Doubled"), .ref (ca "NoName"), .ref (ca "TooMany")] (fun ea isx => mir ["_law_e", "_law_words"] (g_l_kind ea isx))) := by
  have sc := sc_l_kind
  refine fn_exc (k := 0) F sc_l_kind (fun cdv A outer s H E B ea C' oe isx hr hx hz => ?_)
  obtain ⟨z_0, z_1, z_2, z_3, z_4, _⟩ := hz
  exact (dss_cons (ds_setA (i := 1) sc.nd (by rfl) (by first|exact .inl rfl|exact .inr rfl) (da_lst das_nil)) (dss_cons (ds_if (dt_truth (DE.read (de_isE hx (show (ea, oe) ∈ [(ea, oe)] from .head _) z_4 (by rfl) T.b_isinstance (by rfl) U.m_TooMany (pv 0))) (by intro _; rfl)) (dss_one (ds_app 1 (pv 1) de_str)) dss_nil) (dss_cons (ds_if (dt_truth (DE.read (de_isE hx (show (ea, oe) ∈ [(ea, oe)] from .head _) z_3 (by rfl) T.b_isinstance (by rfl) U.m_NoName (pv 0))) (by intro _; rfl)) (dss_one (ds_app 1 (pv 1) de_str)) dss_nil) (dss_cons (ds_if (dt_truth (DE.read (de_isE hx (show (ea, oe) ∈ [(ea, oe)] from .head _) z_2 (by rfl) T.b_isinstance (by rfl) U.m_Doubled (pv 0))) (by intro _; rfl)) (dss_one (ds_app 1 (pv 1) de_str)) dss_nil) (dss_cons (ds_if (dt_truth (DE.read (de_isE hx (show (ea, oe) ∈ [(ea, oe)] from .head _) z_1 (by rfl) T.b_isinstance (by rfl) U.m_NoNumber (pv 0))) (by intro _; rfl)) (dss_one (ds_app 1 (pv 1) de_str)) dss_nil) (dss_cons (ds_if (dt_w (dw_or (dt_cmp (op_neD hr.units) ok_eq (DE.read (de_len (by rfl) T.b_len (drs_cons (dr_var 1 (pv 1)) drs_nil))) de_int.read (nomark _)) (dw_or1 (dt_not (dt_truth (DE.read (de_isT hx (show (ea, oe) ∈ [(ea, oe)] from .head _) z_0 (by rfl) T.b_isinstance (by rfl) T.b_ValueError (by decide +kernel) (pv 0))) (by intro _; rfl)))))) (dss_one (ds_ret de_str)) dss_nil) (dss_one (ds_ret (de_item2 (dr_var 1 (pv 1)) de_int.read (by intro _ _; rfl))))))))))
theorem sc_l_told : FnScope ["_law_queue", "_law_word", "_law_name_here", "_law_e"] ["_law_queue"] (defScope s_l_told) := ⟨rfl, rfl, rfl, by decide +kernel, rfl, by decide +kernel, by decide +kernel⟩
theorem ok_l_told {f : Addr} {fd : FuncData} (T : Txt K mg C) (F : Fun K "_law_told" "_law_told" s_l_told f fd) {ca : Str -> Addr} (U : Exs P w K mg base ca) (h_check_queue : Fx P w K mg base "check_queue" 3 1 m_check_queue) (h_l_kind : Ex1 P w K mg base "name" [.type "ValueError", .ref (ca "NoNumber"), .ref (ca "Doubled"), .ref (ca "NoName"), .ref (ca "TooMany")] "_law_kind" 1 m_l_kind) (ind_l_kind : ∀ ea isx, m_l_kind ea isx [.exn ea] = m_l_kind 0 isx [.exn 0]) (hx_check_queue : Ry P w K mg base ca "name" "check_queue" 3 1 mx_check_queue) : FnOk P w K mg base CX0 4 f fd ["_law_queue"] (pSp ⟨K, w⟩ 1 (len? 1 (mir ["_law_queue", "_law_word", "_law_name_here", "_law_e"] g_l_told))) := by
  obtain ⟨fI_Doubled, xc_Doubled, f0_Doubled, ps_Doubled, FI_Doubled, bI_Doubled⟩ := U.i_Doubled
  have sc := sc_l_told
  refine fn_pure (k := 3) F sc_l_told (fun cdv A outer s H E B hr => ?_)
  exact (dss_cons (ds_set (i := 1) sc.nd (by rfl) (by first|exact .inl rfl|exact .inr rfl) de_str) (dss_cons (ds_set (i := 2) sc.nd (by rfl) (by first|exact .inl rfl|exact .inr rfl) de_non) (dss_cons (ds_tryV (ca := ca) (fd := "name") (dss_one (ds_if (dt_cmp op_isB ok_isB (DE.read (de_callF h_check_queue (hr.mono (by decide)) (by rfl) (dns_cons (dn_var 0 (pv 0)) dns_nil))) (DE.read de_bl) (nomark _)) (dss_one (ds_set (i := 1) sc.nd (by rfl) (by first|exact .inl rfl|exact .inr rfl) de_str)) dss_nil)) (fun pn E => (dvs_ifT (dvt_cmpL (dv_call pass_WX hx_check_queue mirY_len (hr.mono (by decide)) (by rfl) (dns_cons (dn_var 0 (pv 0)) dns_nil)) (nomark _)))) sc.nd ⟨rfl, rfl⟩ (.as (by rfl) U.m_Doubled (by decide +kernel) (by rfl) (by rfl) (all_cons (.cons (jt_call h_l_kind ind_l_kind U.is_Doubled (kit_cons U.t1_Doubled_ValueError (kit_cons U.z0_Doubled_NoNumber (kit_cons U.z1_Doubled_Doubled (kit_cons U.z0_Doubled_NoName (kit_cons U.z0_Doubled_TooMany kit_nil))))) (hr.mono (by decide)) (by rfl) (by rfl) (by rfl)) (by rfl) (by first|exact .inl rfl|exact .inr rfl) (by first|exact .inl rfl|exact .inr rfl) (by rfl) (.cons (jt_pay (it_pay xc_Doubled (by rfl) (by rfl))) (by rfl) (by first|exact .inl rfl|exact .inr rfl) (by first|exact .inl rfl|exact .inr rfl) (by rfl) .nil)) all_nil) (all_cons U.y_Doubled_Doubled all_nil) (all_cons (all_cons U.n_TooMany_Doubled (all_cons U.n_NoName_Doubled (all_cons U.n_NoNumber_Doubled all_nil))) all_nil) (.as (by rfl) U.m_HallError (by decide +kernel) (by rfl) (by rfl) (all_cons (.cons (jt_call h_l_kind ind_l_kind U.is_TooMany (kit_cons U.t1_TooMany_ValueError (kit_cons U.z0_TooMany_NoNumber (kit_cons U.z0_TooMany_Doubled (kit_cons U.z0_TooMany_NoName (kit_cons U.z1_TooMany_TooMany kit_nil))))) (hr.mono (by decide)) (by rfl) (by rfl) (by rfl)) (by rfl) (by first|exact .inl rfl|exact .inr rfl) (by first|exact .inl rfl|exact .inr rfl) (by rfl) .nil) (all_cons (.cons (jt_call h_l_kind ind_l_kind U.is_NoName (kit_cons U.t1_NoName_ValueError (kit_cons U.z0_NoName_NoNumber (kit_cons U.z0_NoName_Doubled (kit_cons U.z1_NoName_NoName (kit_cons U.z0_NoName_TooMany kit_nil))))) (hr.mono (by decide)) (by rfl) (by rfl) (by rfl)) (by rfl) (by first|exact .inl rfl|exact .inr rfl) (by first|exact .inl rfl|exact .inr rfl) (by rfl) .nil) (all_cons (.cons (jt_call h_l_kind ind_l_kind U.is_NoNumber (kit_cons U.t1_NoNumber_ValueError (kit_cons U.z1_NoNumber_NoNumber (kit_cons U.z0_NoNumber_Doubled (kit_cons U.z0_NoNumber_NoName (kit_cons U.z0_NoNumber_TooMany kit_nil))))) (hr.mono (by decide)) (by rfl) (by rfl) (by rfl)) (by rfl) (by first|exact .inl rfl|exact .inr rfl) (by first|exact .inl rfl|exact .inr rfl) (by rfl) .nil) all_nil))) (all_cons U.y_TooMany_HallError (all_cons U.y_NoName_HallError (all_cons U.y_NoNumber_HallError all_nil))) all_nil .nil))) (dss_one (ds_ret (de_tup (das_cons (de_var 1 (pv 1)) (das_cons (de_var 2 (pv 2)) das_nil))))))))
theorem sc_law : FnScope ["_law_script", "_law_at", "_law_many", "_law_faults", "_law_left", "_law_step", "_law_queue", "_law_k", "_law_handed"] ["_law_script"] (defScope s_law) := ⟨rfl, rfl, rfl, by decide +kernel, rfl, by decide +kernel, by decide +kernel⟩
theorem ok_law {f : Addr} {fd : FuncData} (T : Txt K mg C) (F : Fun K "law" "law" s_law f fd) (h_l_told : Fx P w K mg base "_law_told" 4 1 m_l_told) (h_l_due : Fx P w K mg base "_law_due" 2 1 m_l_due) (h_l_spoilt : Fx P w K mg base "_law_spoilt" 1 2 m_l_spoilt) (h_l_draw : Fx P w K mg base "_law_draw" 2 3 m_l_draw) (h_l_many_named : Fx P w K mg base "_law_many_named" 2 2 m_l_many_named) (h_l_cell : Fx P w K mg base "_law_cell" 1 2 m_l_cell) : FnOk P w K mg base CX0 5 f fd ["_law_script"] (pSp ⟨K, w⟩ 1 (len? 1 (mir ["_law_script", "_law_at", "_law_many", "_law_faults", "_law_left", "_law_step", "_law_queue", "_law_k", "_law_handed"] g_law))) := by
  have sc := sc_law
  refine fn_pure (k := 4) F sc_law (fun cdv A outer s H E B hr => ?_)
  exact (dss_cons (ds_for (t := (.name 1)) PassesOwn.never (by rfl) (di_rng2 (by rfl) T.b_range (drs_cons de_int.read (drs_cons (DE.read (de_min (by rfl) (by rfl) T.b_min (drs_cons (DE.read (de_len (by rfl) T.b_len (drs_cons (dr_var 0 (pv 0)) drs_nil))) (drs_cons de_int.read drs_nil)))) drs_nil))) (pg_name (i := 1) sc.nd (by rfl) (by first|exact .inl rfl|exact .inr rfl)) (dss_cons (ds_asgL (is := [2, 3, 4, 5]) (DA.frz (da_callF h_l_draw (hr.mono (by decide)) (by rfl) (dns_cons (dn_var 0 (pv 0)) (dns_cons (dn_var 1 (pv 1)) (dns_cons (dn_val (DA.frz (da_lst (das_cons de_int (das_cons de_int (das_cons de_int (das_cons de_int das_nil))))))) dns_nil))))) (pg_tupL (by rfl) (pgs_cons (pg_name (i := 2) sc.nd (by rfl) (by first|exact .inl rfl|exact .inr rfl)) (pgs_cons (pg_name (i := 3) sc.nd (by rfl) (by first|exact .inl rfl|exact .inr rfl)) (pgs_cons (pg_name (i := 4) sc.nd (by rfl) (by first|exact .inl rfl|exact .inr rfl)) (pgs_cons (pg_name (i := 5) sc.nd (by rfl) (by first|exact .inl rfl|exact .inr rfl)) pgs_nil)))))) (dss_cons (ds_setC (i := 6) (own := ["_law_k"]) (cap := [("_law_script", 0), ("_law_left", 4), ("_law_step", 5)]) (t := (.name 0)) (by rfl) (comp_scope (sc := (defScope s_law).names) (N := ["_law_script", "_law_at", "_law_many", "_law_faults", "_law_left", "_law_step", "_law_queue", "_law_k", "_law_handed"]) (by rfl) (by rfl) (by rfl) (by decide +kernel)) (di_rng1 (by rfl) T.b_range (drs_cons (dr_var 2 (pv 2)) drs_nil)) (by decide) (fun B' C' s₀ H₀ fp pn => ⟨(pg_name (i := 0) (show List.Nodup (["_law_k", "_law_script", "_law_left", "_law_step"] : List Str) from by decide +kernel) (by rfl) (by first|exact .inl rfl|exact .inr rfl)), difs_nil, (de_tup (das_cons (de_callF h_l_many_named (hr.mono (by decide)) (by rfl) (dns_cons (dn_val (de_callF h_l_cell (hr.mono (by decide)) (by rfl) (dns_cons (dn_var 1 (pv 1)) (dns_cons (dn_val de_int) dns_nil)))) (dns_cons (dn_var 0 (pv 0)) dns_nil))) (das_cons (de_plus de_int.read (DE.read (de_mod (DE.read (de_plus (dr_var 2 (pv 2)) (DE.read (de_mul (dr_var 3 (pv 3)) (dr_var 0 (pv 0)))))) de_int.read))) das_nil)))⟩) sc.nd (by rfl) (by first|exact .inl rfl|exact .inr rfl)) (dss_cons (ds_for (t := (.name 7)) PassesOwn.never (by rfl) (di_rng1 (by rfl) T.b_range (drs_cons (dr_var 3 (pv 3)) drs_nil)) (pg_name (i := 7) sc.nd (by rfl) (by first|exact .inl rfl|exact .inr rfl)) (dss_one (ds_if (dt_cmp (op_ne0 hr.units2) ok_ne0 (dr_var 6 (pv 6)) (DA.read (da_lst das_nil)) (nomark _)) (dss_one (ds_set (i := 6) sc.nd (by rfl) (by first|exact .inl rfl|exact .inr rfl) (DA.frz (da_callF h_l_spoilt (hr.mono (by decide)) (by rfl) (dns_cons (dn_var 6 (pv 6)) (dns_cons (dn_val (DA.frz (da_callF h_l_draw (hr.mono (by decide)) (by rfl) (dns_cons (dn_var 0 (pv 0)) (dns_cons (dn_val (de_plus (DE.read (de_plus (dr_var 1 (pv 1)) de_int.read)) (DE.read (de_mul de_int.read (dr_var 7 (pv 7)))))) (dns_cons (dn_val (DA.frz (da_lst (das_cons de_int (das_cons de_int (das_cons de_int das_nil)))))) dns_nil)))))) dns_nil)))))) dss_nil))) (dss_cons (ds_set (i := 8) sc.nd (by rfl) (by first|exact .inl rfl|exact .inr rfl) (DA.frz (da_list (by rfl) T.b_list (drs_cons (dr_var 6 (pv 6)) drs_nil)))) (dss_one (ds_if (dt_w (dw_or (dt_cmp (op_neD hr.units) ok_eq (DE.read (de_callF h_l_told (hr.mono (by decide)) (by rfl) (dns_cons (dn_var 8 (pv 8)) dns_nil))) (DE.read (de_callF h_l_due (hr.mono (by decide)) (by rfl) (dns_cons (dn_var 6 (pv 6)) dns_nil))) (nomark _)) (dw_or1 (dt_cmp (op_neS hr.units2) ok_neS (dr_var 8 (pv 8)) (dr_var 6 (pv 6)) (nomark _))))) (dss_one (ds_ret de_bl)) dss_nil))))))) (dss_one (ds_ret (de_cmp (op_eqD hr.units) ok_eq (DE.read (de_callF h_l_told (hr.mono (by decide)) (by rfl) (dns_cons (dn_val (DA.frz (da_lst das_nil))) dns_nil))) (DE.read (de_tup (das_cons de_str (das_cons de_non das_nil)))) (nomark _)))))
abbrev s_Doubled_init : Stmt := inClass (top 5) 0
theorem sc_Doubled_init : FnScope ["self", "name"] ["self", "name"] (defScope s_Doubled_init) := ⟨rfl, rfl, rfl, by decide +kernel, rfl, by decide +kernel, by decide +kernel⟩
theorem ok_Doubled_init {f CT HE : Addr} {fd : FuncData} (F : Fun K "__init__" "Doubled.__init__" s_Doubled_init f fd) (xc : XC K CT HE f "name") (mH : mg "HallError" = some (.ref HE)) : FnOk P w K mg base CX0 1 f fd ["self", "name"] (xiSp CT "name") := by
  have sc := sc_Doubled_init
  refine F.ok (k := 0) sc_Doubled_init (fun vs H Q E h => ?_) (fun cdv A outer s H vs Q E hr h => ?_)
  · obtain ⟨e, v, t, rfl, _⟩ := h; rfl
  · refine ⟨_, pss_cons (ps_expr (pe_base xc (by rfl) mH (pa_cons (pv 0) (pa_cons (pv 1) pa_nil)))) (pss_one (ps_first xc (pv 0) (pv 1) (by rfl))), ?_⟩
    obtain ⟨e, v, t, rfl, he, q⟩ := h
    exact ⟨_, rfl, _, rfl, e, v, t, rfl, he, fun t' => ⟨_, rfl, _, rfl, e, t', rfl, upd_same, fun dx h1 h2 => xi_end (t := t) q t' dx h1 h2⟩⟩
end
end My
namespace My
open PySem PySem.Spec L2 L3 L4 L6 Dv HM QM
open PyProof.Rows hiding St
theorem e_l_cell (ns : List Int) (k : Nat) : m_l_cell [.val (.scr ns), .val (.int k)] = some (.val (.int (ns.getD k 0))) := by
  by_cases h : k < ns.length
  · have e : atI ns (k : Int) = some ns[k] := atI_at k (List.getElem?_eq_getElem h)
    simp [m_l_cell, mir, stE, N_l_cell, g_l_cell, h, e]
  · simp [m_l_cell, mir, stE, N_l_cell, g_l_cell, h]
theorem e_l_stir (a : Int) (k : Int) : ∃ z, m_l_stir [.val (.int a), .val (.int k)] = some (.val (.int z)) := by
  have h1 : ∀ x : Int, -LIM < x % 2147483647 := fun x => by unfold LIM; omega
  have h1' : ∀ x : Int, x % 2147483647 < LIM := fun x => by unfold LIM; omega
  have h2 : ∀ x : Int, -LIM < x % 2147483629 := fun x => by unfold LIM; omega
  have h2' : ∀ x : Int, x % 2147483629 < LIM := fun x => by unfold LIM; omega
  have l1 : -LIM < 69621 := by decide
  have l2 : 69621 < LIM := by decide
  have l3 : -LIM < 16807 := by decide
  have l4 : 16807 < LIM := by decide
  simp [m_l_stir, mir, stE, N_l_stir, g_l_stir, mod_ok, mul_l, h1, h2, h1', h2', l1, l2, l3, l4]
def Rng : List Int -> List Int -> Prop
  | [], [] => True
  | b :: bs, v :: vs => (0 <= v /\ v < b) /\ Rng bs vs
  | _, _ => False
theorem Rng.len : ∀ {bs vs : List Int}, Rng bs vs -> vs.length = bs.length
  | [], [], _ => rfl
  | b :: bs, v :: vs, h => by simp [Rng.len h.2]
  | [], _ :: _, h => h.elim
  | _ :: _, [], h => h.elim
theorem draw_loop (ns : List Int) (at0 : Nat) (X2 : Option En) : ∀ (bs : List Int) (k : Nat) (c : Int) (k0 b0 : Option En) (vs : List Int), (∀ b ∈ bs, 0 < b /\ b < 1073741824) -> vs.length + bs.length <= 1000 -> ∃ (us : List Int) (c' : Int) (k' b' : Option En), Rng bs us /\
    forD (.tup [5, 6]) b_l_draw_0 (enumD k (bs.map D.int)) [some (.val (.scr ns)), some (.val (.int (at0 : Int))), X2, some (.val (.int c)), some (.acc (vs.map D.int)), k0, b0]
      = some (.next [some (.val (.scr ns)), some (.val (.int (at0 : Int))), X2, some (.val (.int c')), some (.acc ((vs ++ us).map D.int)), k', b'])
  | [], k, c, k0, b0, vs, _, _ => ⟨[], c, k0, b0, trivial, by simp [enumD]⟩
  | b :: bs, k, c, k0, b0, vs, hb, hl => by
    simp only [List.length_cons] at hl
    have hb1 := hb b List.mem_cons_self
    obtain ⟨z, hz⟩ := e_l_stir c (k : Int)
    have e0 := e_l_cell ns 0
    have hs : (0 : Int) <= (at0 : Int) % 8 := by omega
    have ht' : vs.length <= TOP := by simp [TOP]; omega
    have ih := fun (v : Int) (c2 : Int) => draw_loop ns at0 X2 bs (k + 1) c2 (some (.val (.int (k : Int)))) (some (.val (.int b))) (vs ++ [v]) (fun d hd => hb d (List.mem_cons_of_mem _ hd)) (by simp; omega)
    by_cases q : Builtin.bitAnd (ns.getD 0 0 / 2 ^ ((at0 : Int) % 8).toNat) 1 = 0
    · obtain ⟨us, c', k', b', p1, p3⟩ := ih (c % b) (c / b)
      refine ⟨(c % b) :: us, c', k', b', ⟨⟨Int.emod_nonneg _ (by omega), Int.emod_lt_of_pos _ hb1.1⟩, p1⟩, ?_⟩
      rw [show vs ++ (c % b) :: us = (vs ++ [c % b]) ++ us by simp, <- p3]
      simp at e0 q
      simp [enumD, asgD, setMany, b_l_draw_0, e0, mod_ok, shr_ok hs, q, mod_ok hb1.1, div_ok hb1.1 hb1.2, ht']
    · obtain ⟨us, c', k', b', p1, p3⟩ := ih (z / 8 % b) c
      refine ⟨(z / 8 % b) :: us, c', k', b', ⟨⟨Int.emod_nonneg _ (by omega), Int.emod_lt_of_pos _ hb1.1⟩, p1⟩, ?_⟩
      rw [show vs ++ (z / 8 % b) :: us = (vs ++ [z / 8 % b]) ++ us by simp, <- p3]
      simp at e0 q hz
      simp [enumD, asgD, setMany, b_l_draw_0, e0, mod_ok, shr_ok hs, q, mod_ok hb1.1, div_ok, ht', hz]
theorem e_l_draw (ns : List Int) (at0 : Nat) (bs : List Int) (hb : ∀ b ∈ bs, 0 < b /\ b < 1073741824) (hl : bs.length <= 900) : ∃ us : List Int, Rng bs us /\ m_l_draw [.val (.scr ns), .val (.int at0), .val (.lst (bs.map D.int))] = some (.acc (us.map D.int)) := by
  obtain ⟨us, c', k', b', p1, p3⟩ := draw_loop ns at0 (some (.val (.lst (bs.map D.int)))) bs 0 (ns.getD at0 0) none none [] hb (by simp; omega)
  refine ⟨us, p1, ?_⟩
  have e0 := e_l_cell ns at0
  generalize hB : bs.map D.int = BS at *
  simp only [m_l_draw, mir, stE, N_l_draw, g_l_draw]
  simp at p3
  simp [e0, p3]
theorem top_small {n : Nat} (h : n <= 1000) : n <= TOP := Nat.le_trans h (by decide)
theorem slice_from {l : List Nat} {k : Int} (h1 : 0 <= k) (h2 : k <= l.length) : Txt.slice (mk l) (some k) none = mk (l.drop k.toNat) := by
  rw [slice_from_eq (b := ((mk l).length : Int)) h1 (by rw [mk_len]; exact h2) rfl, mk_len]
  have e : (mk l).cps.toList = l := by simp [mk]
  rw [e, List.take_of_length_le (by rw [List.length_drop]; omega)]
  rfl
def wloop : List Nat -> List Nat -> Int -> List Nat × Int
  | [], l, z => (l, z)
  | j :: js, l, z => wloop js (l ++ [sg (z % (if j = 0 then 26 else 36))]) (z / 36)
theorem i36a : fItem (.lst [.int 36, .int 26]) (.int 1) = some (.int 26) := rfl
theorem i36b : fItem (.lst [.int 36, .int 26]) (.int 0) = some (.int 36) := rfl
theorem t2 : 2 <= TOP := by decide
theorem name_loop (X0 X1 X3 X4 : Option En) : ∀ (js l : List Nat) (z : Int) (b7 : Option En), l.length + js.length <= 100 -> ∃ b7' : Option En,
    forD (.name 7) b_l_name_0 (js.map fun (j : Nat) => D.int (0 + (j : Int))) [X0, X1, some (.val (.str SIGNS)), X3, X4, some (.val (.int z)), some (.val (.str (mk l))), b7]
      = some (.next [X0, X1, some (.val (.str SIGNS)), X3, X4, some (.val (.int (wloop js l z).2)), some (.val (.str (mk (wloop js l z).1))), b7'])
  | [], l, z, b7, _ => ⟨b7, by simp [wloop]⟩
  | j :: js, l, z, b7, hl => by
    simp only [List.length_cons] at hl
    obtain ⟨b7', p⟩ := name_loop X0 X1 X3 X4 js (l ++ [sg (z % (if j = 0 then 26 else 36))]) (z / 36) (some (.val (.int (0 + (j : Int))))) (by simp; omega)
    refine ⟨b7', ?_⟩
    rw [show wloop (j :: js) l z = wloop js (l ++ [sg (z % (if j = 0 then 26 else 36))]) (z / 36) from rfl, <- p]
    have t1 : l.length + 1 <= TOP := top_small (by omega)
    by_cases h : j = 0
    · subst h
      have i1 := sg_item (a := z % 26) (by omega) (by omega)
      simp [b_l_name_0, mod_ok, div_ok, t2, i36a, i1, mk_len, mk_app, t1]
    · have h' : ¬ ((j : Int) = 0) := by omega
      have i1 := sg_item (a := z % 36) (by omega) (by omega)
      simp [b_l_name_0, mod_ok, div_ok, h, h', t2, i36b, i1, mk_len, mk_app, t1]
theorem wloop_len : ∀ (js l : List Nat) (z : Int), (wloop js l z).1.length = l.length + js.length
  | [], l, z => by simp [wloop]
  | j :: js, l, z => by rw [wloop, wloop_len]; simp; omega
theorem wloop_mem : ∀ (js l : List Nat) (z : Int), (∀ d ∈ l, d ∈ S36) -> ∀ d ∈ (wloop js l z).1, d ∈ S36
  | [], l, z, h => h
  | j :: js, l, z, h => wloop_mem js _ _ fun d hd => by
    rcases List.mem_append.mp hd with q | q
    · exact h d q
    · rw [List.mem_singleton.mp q]
      split
      · exact sg_mem (by omega) (by omega)
      · exact sg_mem (by omega) (by omega)
theorem wloop_head : ∀ (js l : List Nat) (z : Int) (c : Nat), l.head? = some c -> (wloop js l z).1.head? = some c
  | [], l, z, c, h => h
  | j :: js, l, z, c, h => wloop_head js _ _ c (by cases l with | nil => cases h | cons a r => simpa using h)
def word (c : Int) : List Nat := (wloop (List.range (c % 8).toNat) [] (c / 72)).1
def wleft (c : Int) : Int := (wloop (List.range (c % 8).toNat) [] (c / 72)).2
def wat (c : Int) : Nat := (c / 8 % (c % 8 + 1)).toNat
def nmK (c : Int) (k : Nat) : List Nat := (word c).take (wat c) ++ (sg ((wleft c + k) % 26) :: (word c).drop (wat c))
theorem word_len (c : Int) : (word c).length = (c % 8).toNat := by unfold word; rw [wloop_len]; simp
theorem wat_le (c : Int) : wat c <= (word c).length := by
  rw [word_len]; unfold wat
  have h1 : 0 <= c % 8 := by omega
  have h2 := Int.emod_lt_of_pos (c / 8) (show 0 < c % 8 + 1 by omega)
  have h3 := Int.emod_nonneg (c / 8) (show c % 8 + 1 ≠ 0 by omega)
  omega
theorem nmK_ok (c : Int) (k : Nat) : NameOk (mk (nmK c k)) := by
  have hl := word_len c
  have hm : ∀ d ∈ word c, d ∈ S36 := wloop_mem _ _ _ (by simp)
  have hw := wat_le c
  have s1 : sg ((wleft c + k) % 26) ∈ S36.take 26 := sg_low (by omega) (by omega)
  have all : ∀ d ∈ nmK c k, d ∈ S36 := fun d hd => by
    unfold nmK at hd
    rcases List.mem_append.mp hd with q | q
    · exact hm d (List.mem_of_mem_take q)
    · rcases List.mem_cons.mp q with rfl | q
      · exact List.mem_of_mem_take s1
      · exact hm d (List.mem_of_mem_drop q)
  have len : (nmK c k).length = (word c).length + 1 := by
    unfold nmK
    rw [List.length_append, List.length_cons, List.length_take, List.length_drop]
    omega
  have hd : ∃ x, (nmK c k).head? = some x /\ x ∈ S36.take 26 := by
    unfold nmK
    cases hw0 : wat c with
    | zero => exact ⟨_, by simp, s1⟩
    | succ n =>
      have hne : 0 < (c % 8).toNat := by rw [hw0] at hw; omega
      obtain ⟨m, hm2⟩ : ∃ m, (c % 8).toNat = m + 1 := ⟨_, (Nat.succ_pred_eq_of_pos hne).symm⟩
      have e : (word c).head? = some (sg (c / 72 % 26)) := by
        unfold word
        rw [hm2, List.range_succ_eq_map]
        show (wloop _ ([] ++ [sg (c / 72 % (if (0 : Nat) = 0 then 26 else 36))]) _).1.head? = _
        exact wloop_head _ _ _ _ (by simp)
      refine ⟨_, ?_, sg_low (a := c / 72 % 26) (by omega) (by omega)⟩
      cases q : word c with
      | nil => rw [q] at e; cases e
      | cons a r => rw [q] at e; simp at e; simp [e]
  obtain ⟨x, hx, hx2⟩ := hd
  cases q : nmK c k with
  | nil => rw [q] at hx; cases hx
  | cons a r =>
    rw [q] at hx all len
    have hax : a = x := Option.some.inj hx
    rw [<- hax] at hx2
    exact ⟨a, r, rfl, hx2, fun d hd => all d (List.mem_cons_of_mem _ hd), by simp at len; omega⟩
theorem e_l_name (c : Int) (k : Nat) : m_l_name [.val (.int c), .val (.int k)] = some (.val (.str (mk (nmK c k)))) := by
  have hw := wat_le c
  have hl := word_len c
  obtain ⟨b7', p⟩ := name_loop (some (.val (.int c))) (some (.val (.int k))) (some (.val (.int (c % 8)))) (some (.val (.int (c / 8 % (c % 8 + 1))))) (List.range (c % 8).toNat) [] (c / 72) none (by simp; omega)
  have en : ((c % 8).toNat : Int) = c % 8 := by omega
  have hB : -BIG <= c % 8 /\ c % 8 <= BIG := by unfold BIG; omega
  have h3 := Int.emod_nonneg (c / 8) (show c % 8 + 1 ≠ 0 by omega)
  have h9 : (0 : Int) < c % 8 + 1 := by omega
  have s1 := slice_mk (l := word c) (k := c / 8 % (c % 8 + 1)) h3 (by unfold wat at hw; omega)
  have s2 := slice_from (l := word c) (k := c / 8 % (c % 8 + 1)) h3 (by unfold wat at hw; omega)
  have i1 := sg_item (a := (wleft c + k) % 26) (by omega) (by omega)
  have mk0 : mk [] = ("" : Str) := by decide +kernel
  rw [mk0] at p
  rw [show (wloop (List.range (c % 8).toNat) [] (c / 72)).1 = word c from rfl, show (wloop (List.range (c % 8).toNat) [] (c / 72)).2 = wleft c from rfl] at p
  have t1 : (word c).length <= TOP := top_small (by omega)
  have t2 : min (wat c) (word c).length + 1 <= TOP := top_small (by omega)
  have t3 : min (wat c) (word c).length + 1 + ((word c).length - wat c) <= TOP := top_small (by omega)
  have r1 := rngD_map 0 (c % 8).toNat
  unfold SIGNS at p i1
  simp only [m_l_name, mir, stE, N_l_name, g_l_name]
  simp at p
  simp [mod_ok, div_ok, mod_ok h9, hB, r1, p, s1, s2, i1, mk_len, mk_app, t1]
  unfold wat at t2 t3
  simp [nmK, wat, mk_len, mk_app, t2, t3]
theorem asBs_true {α : Type} : ∀ (rs : List α), asBs (rs.map fun _ => D.bl true) = some (rs.map fun _ => true)
  | [] => rfl
  | r :: rs => by simp [asBs, asBs_true rs]
theorem lf_len : ("abcdefghijklmnopqrstuvwxyz" : Str).length + ("0123456789" : Str).length <= TOP := by decide +kernel
theorem comp_signs : ∀ (l : List Nat), (∀ d ∈ l, d ∈ S36) -> compD (.name 0) tYes e_is_name_0 [none] (l.map fun c => D.str (mk [c])) = some (l.map fun _ => D.bl true)
  | [], _ => by simp
  | c :: l, h => by
    have ih := comp_signs l fun d hd => h d (by simp [hd])
    have e := in_signs (h c (by simp))
    simp only [List.map_cons, ev_compS, ih]
    simp [e_is_name_0, lf_len, e]
theorem ss : subT "str" "str" = some true := by decide
theorem e_is_name {x : Str} (h : NameOk x) : m_is_name [.val (.str x)] = some (.val (.bl true)) := by
  obtain ⟨c, cs, rfl, h1, h2, h3⟩ := h
  have e1 := comp_signs (c :: cs) (fun d hd => by
    rcases List.mem_cons.mp hd with rfl | hd
    · exact List.mem_of_mem_take h1
    · exact h2 d hd)
  have e2 := asBs_true (c :: cs)
  have e3 := item_mk (l := c :: cs) (a := 0) (top_small (by simp only [List.length_cons]; omega)) (by omega) (by simp only [List.length_cons]; omega)
  have e3 : fItem (.str (mk (c :: cs))) (.int 0) = some (.str (mk [c])) := by simpa using e3
  have e4 := in_letters h1
  have l1 : fLen [.str (mk (c :: cs))] = some (.int ((cs.length + 1 : Nat) : Int)) := by
    show (if (mk (c :: cs)).length <= TOP then some (D.int (mk (c :: cs)).length) else none) = _
    rw [mk_len, if_pos (top_small (by simp; omega))]; rfl
  have l4 : cs.length + 1 <= TOP := top_small (by omega)
  rw [<- ch_mk] at e1
  generalize hz : mk (c :: cs) = z at *
  have lch : (chD z).length = cs.length + 1 := by rw [<- hz, ch_mk]; simp
  simp only [List.map_cons] at e1 e2
  have ha : asBs (D.bl true :: cs.map fun _ => D.bl true) = some (true :: cs.map fun _ => true) := e2
  have l5 : (1 : Int) <= (cs.length : Int) + 1 := by omega
  have l6 : (cs.length : Int) + 1 <= 8 := by omega
  simp [m_is_name, mir, stE, N_is_name, g_is_name, ss, l1, e3, e4, lch, l4, l5, l6, e1, ha]
theorem e_no_name0 : m_is_name [.val (.str "")] = some (.val (.bl false)) := by
  have l0 : (("" : Str)).length = 0 := by decide +kernel
  have l1 : fLen [.str ""] = some (.int 0) := by
    show (if (("" : Str)).length <= TOP then some (D.int (("" : Str)).length) else none) = some (D.int 0)
    rw [l0, if_pos (by decide)]; rfl
  simp [m_is_name, mir, stE, N_is_name, g_is_name, ss, l1]
theorem e_no_nameS {c : Nat} {cs : List Nat} (hl : cs.length <= 7) (h : (Builtin.Str.occurrences ("abcdefghijklmnopqrstuvwxyz" : Str) (mk [c]) 0 ("abcdefghijklmnopqrstuvwxyz" : Str).length 1).isEmpty = true) : m_is_name [.val (.str (mk (c :: cs)))] = some (.val (.bl false)) := by
  have e3 := item_mk (l := c :: cs) (a := 0) (top_small (by simp only [List.length_cons]; omega)) (by omega) (by simp only [List.length_cons]; omega)
  have e3 : fItem (.str (mk (c :: cs))) (.int 0) = some (.str (mk [c])) := by simpa using e3
  have l1 : fLen [.str (mk (c :: cs))] = some (.int ((cs.length + 1 : Nat) : Int)) := by
    show (if (mk (c :: cs)).length <= TOP then some (D.int (mk (c :: cs)).length) else none) = _
    rw [mk_len, if_pos (top_small (by simp; omega))]; rfl
  have l5 : (1 : Int) <= (cs.length : Int) + 1 := by omega
  have l6 : (cs.length : Int) + 1 <= 8 := by omega
  generalize hz : mk (c :: cs) = z at *
  simp [m_is_name, mir, stE, N_is_name, g_is_name, ss, l1, e3, h, l5, l6]
theorem e_no_name {d : D} {t : String} (h : tyD d = some t) (h2 : subT t "str" = some false) : m_is_name [.val d] = some (.val (.bl false)) := by
  simp [m_is_name, mir, stE, N_is_name, g_is_name, h, h2]
def numD (lo hi : Int) : D -> Bool
  | .int i => decide (lo <= i /\ i <= hi)
  | _ => false
def NumK : D -> Prop
  | .int _ => True
  | .non => True
  | .bl _ => True
  | .str _ => True
  | .lst _ => True
  | _ => False
theorem sLI : subT "list" "int" = some false := by decide
theorem sII : subT "int" "int" = some true := by decide
theorem sIB : subT "int" "bool" = some false := by decide
theorem sNI : subT "NoneType" "int" = some false := by decide
theorem sSI : subT "str" "int" = some false := by decide
theorem sBI : subT "bool" "int" = some true := by decide
theorem sBB : subT "bool" "bool" = some true := by decide
theorem e_is_number : ∀ {d : D}, NumK d -> ∀ (lo hi : Int), m_is_number [.val d, .val (.int lo), .val (.int hi)] = some (.val (.bl (numD lo hi d)))
  | .int i, _, lo, hi => by
    by_cases h : lo <= i <;> simp [m_is_number, mir, stE, N_is_number, g_is_number, m_is_whole, N_is_whole, g_is_whole, sII, sIB, sNI, sSI, sBI, sBB, sLI, numD, h]
  | .non, _, lo, hi => by simp [m_is_number, mir, stE, N_is_number, g_is_number, m_is_whole, N_is_whole, g_is_whole, sII, sIB, sNI, sSI, sBI, sBB, sLI, numD]
  | .bl b, _, lo, hi => by simp [m_is_number, mir, stE, N_is_number, g_is_number, m_is_whole, N_is_whole, g_is_whole, sII, sIB, sNI, sSI, sBI, sBB, sLI, numD]
  | .str x, _, lo, hi => by simp [m_is_number, mir, stE, N_is_number, g_is_number, m_is_whole, N_is_whole, g_is_whole, sII, sIB, sNI, sSI, sBI, sBB, sLI, numD]
  | .lst _, _, lo, hi => by simp [m_is_number, mir, stE, N_is_number, g_is_number, m_is_whole, N_is_whole, g_is_whole, sII, sIB, sNI, sSI, sBI, sBB, sLI, numD]
  | .tup _, h, _, _ => h.elim
  | .scr _, h, _, _ => h.elim
  | .obj _ _ _, h, _, _ => h.elim
  | .emp, h, _, _ => h.elim
theorem e_no_name9 {l : List Nat} (h : 8 < l.length) (hl : l.length <= 1000) : m_is_name [.val (.str (mk l))] = some (.val (.bl false)) := by
  have l1 : fLen [.str (mk l)] = some (.int (l.length : Int)) := by
    show (if (mk l).length <= TOP then some (D.int (mk l).length) else none) = _
    rw [mk_len, if_pos (top_small hl)]
  have l6 : ¬ (l.length : Int) <= 8 := by omega
  generalize hz : mk l = z at *
  by_cases l5 : (1 : Int) <= (l.length : Int) <;> simp [m_is_name, mir, stE, N_is_name, g_is_name, ss, l1, l5, l6]
theorem comp_any : ∀ (l : List Nat), (∀ c ∈ l, c = 45 ∨ c ∈ S36) -> ∃ bs : List Bool, compD (.name 0) tYes e_is_name_0 [none] (l.map fun c => D.str (mk [c])) = some (bs.map D.bl) /\ (45 ∈ l -> false ∈ bs) /\ bs.length = l.length
  | [], _ => ⟨[], by simp, by simp, rfl⟩
  | c :: l, h => by
    obtain ⟨bs, p1, p2, p3⟩ := comp_any l fun d hd => h d (List.mem_cons_of_mem _ hd)
    by_cases hc : c = 45
    · have e : (Builtin.Str.occurrences (("abcdefghijklmnopqrstuvwxyz" : Str) ++ ("0123456789" : Str)) (mk [45]) 0 (("abcdefghijklmnopqrstuvwxyz" : Str) ++ ("0123456789" : Str)).length 1).isEmpty = true := by decide +kernel
      refine ⟨false :: bs, ?_, by simp, by simp [p3]⟩
      simp only [List.map_cons, ev_compS, p1]
      subst hc
      simp [e_is_name_0, lf_len, e]
    · have hc2 : c ∈ S36 := (h c List.mem_cons_self).resolve_left hc
      have e := in_signs hc2
      refine ⟨true :: bs, ?_, fun z => ?_, by simp [p3]⟩
      · simp only [List.map_cons, ev_compS, p1]
        simp [e_is_name_0, lf_len, e]
      · rcases List.mem_cons.mp z with z | z
        · exact (hc z.symm).elim
        · exact List.mem_cons_of_mem _ (p2 z)
theorem asBs_map : ∀ bs : List Bool, asBs (bs.map D.bl) = some bs
  | [] => rfl
  | b :: bs => by simp [asBs, asBs_map bs]
theorem e_no_nameD {c : Nat} {cs : List Nat} (h1 : c ∈ S36.take 26) (h2 : ∀ d ∈ cs, d = 45 ∨ d ∈ S36) (h3 : 45 ∈ cs) (hl : cs.length <= 7) : m_is_name [.val (.str (mk (c :: cs)))] = some (.val (.bl false)) := by
  obtain ⟨bs, p1, p2, p3⟩ := comp_any (c :: cs) (fun d hd => by
    rcases List.mem_cons.mp hd with rfl | hd
    · exact .inr (List.mem_of_mem_take h1)
    · exact h2 d hd)
  have e3 := item_mk (l := c :: cs) (a := 0) (top_small (by simp only [List.length_cons]; omega)) (by omega) (by simp only [List.length_cons]; omega)
  have e3 : fItem (.str (mk (c :: cs))) (.int 0) = some (.str (mk [c])) := by simpa using e3
  have e4 := in_letters h1
  have l1 : fLen [.str (mk (c :: cs))] = some (.int ((cs.length + 1 : Nat) : Int)) := by
    show (if (mk (c :: cs)).length <= TOP then some (D.int (mk (c :: cs)).length) else none) = _
    rw [mk_len, if_pos (top_small (by simp; omega))]; rfl
  have l4 : cs.length + 1 <= TOP := top_small (by omega)
  rw [<- ch_mk] at p1
  generalize hz : mk (c :: cs) = z at *
  have lch : (chD z).length = cs.length + 1 := by rw [<- hz, ch_mk]; simp
  have ha := asBs_map bs
  have hb : (bs.all fun x => x) = false := by
    rw [Bool.eq_false_iff]
    intro q
    have := List.all_eq_true.mp q false (p2 (List.mem_cons_of_mem _ h3))
    cases this
  have l5 : (1 : Int) <= (cs.length : Int) + 1 := by omega
  have l6 : (cs.length : Int) + 1 <= 8 := by omega
  generalize hB : bs.map D.bl = BB at *
  have lB : BB.length = cs.length + 1 := by rw [<- hB]; simp [p3]
  simp [m_is_name, mir, stE, N_is_name, g_is_name, ss, l1, e3, e4, lch, l4, l5, l6, p1, ha]
  first | exact hb | simpa using hb | skip
theorem sa : ("a" : Str) = mk [97] := by decide +kernel
theorem sz : ("z" : Str) = mk [122] := by decide +kernel
theorem s00 : ("0" : Str) = mk [48] := by decide +kernel
theorem s9 : ("9" : Str) = mk [57] := by decide +kernel
theorem leT (a b : Nat) : fLeT (.str (mk [a])) (.str (mk [b])) = some (.bl (decide (a <= b))) := by
  rw [ev_fLeT]
  have e : ((mk [b]).cps.toList < (mk [a]).cps.toList) ↔ b < a := by
    show ([b] < [a]) ↔ _
    rw [List.cons_lt_cons_iff]
    simp
  by_cases h : a <= b
  · rw [decide_eq_true h, decide_eq_false (fun z => by have := e.mp z; omega)]; rfl
  · rw [decide_eq_false h, decide_eq_true (e.mpr (by omega))]; rfl
def lw (k c : Nat) : Bool := (decide (97 <= c) && decide (c <= 122)) || (decide (k ≠ 0) && (decide (48 <= c) && decide (c <= 57)))
theorem isn_body {z : Str} {k c : Nat} (X2 : Option En) (hi : fItem (.str z) (.int (k : Int)) = some (.str (mk [c]))) :
    b_l_is_name_0 [some (.val (.str z)), some (.val (.int (k : Int))), X2] = some (if lw k c then .next [some (.val (.str z)), some (.val (.int (k : Int))), some (.val (.bl (decide (97 <= c) && decide (c <= 122))))] else .ret (.val (.bl false))) := by
  have e1 := leT 97 c
  have e2 := leT c 122
  have e3 := leT 48 c
  have e4 := leT c 57
  rw [<- sa] at e1
  rw [<- sz] at e2
  rw [<- s00] at e3
  rw [<- s9] at e4
  unfold lw
  generalize decide (97 <= c) = B1 at *
  generalize decide (c <= 122) = B2 at *
  generalize decide (48 <= c) = B3 at *
  generalize decide (c <= 57) = B4 at *
  by_cases h5 : k = 0
  · have h5' := eq_true h5
    cases B1 <;> cases B2 <;> cases B3 <;> cases B4 <;> simp [-ev_fLeT, b_l_is_name_0, hi, e1, e2, e3, e4, h5']
  · cases B1 <;> cases B2 <;> cases B3 <;> cases B4 <;> simp [-ev_fLeT, b_l_is_name_0, hi, e1, e2, e3, e4, h5]
theorem isn_yes {l : List Nat} (hl : l.length <= 1000) : ∀ (ks : List Nat) (a b : Option En), (∀ k ∈ ks, k < l.length /\ lw k (l.getD k 0) = true) -> ∃ a' b' : Option En,
    forD (.name 1) b_l_is_name_0 (ks.map fun (k : Nat) => D.int (0 + (k : Int))) [some (.val (.str (mk l))), a, b] = some (.next [some (.val (.str (mk l))), a', b'])
  | [], a, b, _ => ⟨a, b, by simp⟩
  | k :: ks, a, b, h => by
    obtain ⟨h1, h2⟩ := h k List.mem_cons_self
    have hi := item_mk (l := l) (a := (k : Int)) (top_small hl) (by omega) (by omega)
    rw [show ((k : Int)).toNat = k by omega] at hi
    have p := isn_body b hi
    rw [h2] at p
    obtain ⟨a', b', r⟩ := isn_yes hl ks (some (.val (.int (k : Int)))) (some (.val (.bl (decide (97 <= l.getD k 0) && decide (l.getD k 0 <= 122))))) fun j hj => h j (List.mem_cons_of_mem _ hj)
    refine ⟨a', b', ?_⟩
    rw [<- r, List.map_cons, ev_forS]
    rw [show asgD (.name 1) (.int (0 + (k : Int))) [some (.val (.str (mk l))), a, b] = some [some (.val (.str (mk l))), some (.val (.int (k : Int))), b] by rw [Int.zero_add]; rfl, Option.bind_some, p]
    rfl
theorem isn_no {l : List Nat} (hl : l.length <= 1000) : ∀ (ks : List Nat) (a b : Option En), (∀ k ∈ ks, k < l.length) -> (∃ k ∈ ks, lw k (l.getD k 0) = false) ->
    forD (.name 1) b_l_is_name_0 (ks.map fun (k : Nat) => D.int (0 + (k : Int))) [some (.val (.str (mk l))), a, b] = some (.ret (.val (.bl false)))
  | [], a, b, _, h => by obtain ⟨k, h, _⟩ := h; cases h
  | k :: ks, a, b, h, he => by
    have h1 := h k List.mem_cons_self
    have hi := item_mk (l := l) (a := (k : Int)) (top_small hl) (by omega) (by omega)
    rw [show ((k : Int)).toNat = k by omega] at hi
    have p := isn_body b hi
    rw [List.map_cons, ev_forS]
    rw [show asgD (.name 1) (.int (0 + (k : Int))) [some (.val (.str (mk l))), a, b] = some [some (.val (.str (mk l))), some (.val (.int (k : Int))), b] by rw [Int.zero_add]; rfl, Option.bind_some, p]
    cases q : lw k (l.getD k 0) with
    | false => rfl
    | true =>
      have r := isn_no hl ks (some (.val (.int (k : Int)))) (some (.val (.bl (decide (97 <= l.getD k 0) && decide (l.getD k 0 <= 122))))) (fun j hj => h j (List.mem_cons_of_mem _ hj)) (by
        obtain ⟨j, hj, e⟩ := he
        rcases List.mem_cons.mp hj with rfl | hj
        · rw [q] at e; cases e
        · exact ⟨j, hj, e⟩)
      rw [<- r]; rfl
theorem lenS {l : List Nat} (hl : l.length <= 1000) : fLen [.str (mk l)] = some (.int (l.length : Int)) := by
  show (if (mk l).length <= TOP then some (D.int (mk l).length) else none) = _
  rw [mk_len, if_pos (top_small hl)]
theorem l_short {l : List Nat} (hl : l.length <= 1000) (h : l.length < 1 ∨ 8 < l.length) : m_l_is_name [.val (.str (mk l))] = some (.val (.bl false)) := by
  have l1 := lenS hl
  generalize hz : mk l = z at *
  rcases h with h | h
  · have h' : (l.length : Int) < 1 := by omega
    simp [m_l_is_name, mir, stE, N_l_is_name, g_l_is_name, ss, l1, h']
  · have h' : ¬ (l.length : Int) < 1 := by omega
    have h2 : (8 : Int) < (l.length : Int) := by omega
    simp [m_l_is_name, mir, stE, N_l_is_name, g_l_is_name, ss, l1, h', h2]
theorem l_no {l : List Nat} (h1 : 1 <= l.length) (h8 : l.length <= 8) (h : ∃ k, k < l.length /\ lw k (l.getD k 0) = false) : m_l_is_name [.val (.str (mk l))] = some (.val (.bl false)) := by
  have l1 := lenS (l := l) (by omega)
  obtain ⟨k, hk, e⟩ := h
  have p := isn_no (l := l) (by omega) (List.range l.length) none none (fun j hj => List.mem_range.mp hj) ⟨k, List.mem_range.mpr hk, e⟩
  have r := rngD_map 0 l.length
  rw [<- r] at p
  have hB : -BIG <= (l.length : Int) /\ (l.length : Int) <= BIG := by unfold BIG; omega
  have h' : ¬ (l.length : Int) < 1 := by omega
  have h2 : ¬ (8 : Int) < (l.length : Int) := by omega
  have en : ((l.length : Int)).toNat = l.length := by omega
  generalize hz : mk l = z at *
  simp only [m_l_is_name, mir, stE, N_l_is_name, g_l_is_name]
  simp [ss, l1, h', h2, hB, p]
theorem lwA : (S36.take 26).all (fun c => lw 0 c) = true := by decide +kernel
theorem lwB : S36.all (fun c => lw 1 c) = true := by decide +kernel
theorem lw_succ {k c : Nat} (h : lw 1 c = true) : lw (k + 1) c = true := by
  unfold lw at h ⊢
  rw [show decide ((1 : Nat) ≠ 0) = true from rfl] at h
  rw [show decide (k + 1 ≠ 0) = true from decide_eq_true (Nat.succ_ne_zero k)]
  exact h
theorem lw_all {c : Nat} {cs : List Nat} (h1 : c ∈ S36.take 26) (h2 : ∀ d ∈ cs, d ∈ S36) : ∀ k, k < (c :: cs).length -> lw k ((c :: cs).getD k 0) = true
  | 0, _ => by
    have : (c :: cs).getD 0 0 = c := rfl
    rw [this]
    exact List.all_eq_true.mp lwA c h1
  | k + 1, hk => by
    have hk' : k < cs.length := by simpa using hk
    have e : (c :: cs).getD (k + 1) 0 = cs[k] := by
      rw [List.getD_eq_getElem?_getD, List.getElem?_cons_succ, List.getElem?_eq_getElem hk']; rfl
    rw [e]
    exact lw_succ (List.all_eq_true.mp lwB _ (h2 _ (List.getElem_mem hk')))
theorem l_yes0 {l : List Nat} (h1 : 1 <= l.length) (h8 : l.length <= 8) (h : ∀ k, k < l.length -> lw k (l.getD k 0) = true) : m_l_is_name [.val (.str (mk l))] = some (.val (.bl true)) := by
  have l1 := lenS (l := l) (by omega)
  obtain ⟨a', b', p⟩ := isn_yes (l := l) (by omega) (List.range l.length) none none (fun j hj => ⟨List.mem_range.mp hj, h j (List.mem_range.mp hj)⟩)
  have r := rngD_map 0 l.length
  rw [<- r] at p
  have hB : -BIG <= (l.length : Int) /\ (l.length : Int) <= BIG := by unfold BIG; omega
  have h' : ¬ (l.length : Int) < 1 := by omega
  have h2 : ¬ (8 : Int) < (l.length : Int) := by omega
  generalize hz : mk l = z at *
  simp only [m_l_is_name, mir, stE, N_l_is_name, g_l_is_name]
  simp [ss, l1, h', h2, hB, p]
theorem l_yes {x : Str} (h : NameOk x) : m_l_is_name [.val (.str x)] = some (.val (.bl true)) := by
  obtain ⟨c, cs, rfl, h1, h2, h3⟩ := h
  exact l_yes0 (by rw [List.length_cons]; omega) (by rw [List.length_cons]; omega) (lw_all h1 h2)
theorem l_kind_no {d : D} {t : String} (h : tyD d = some t) (h2 : subT t "str" = some false) : m_l_is_name [.val d] = some (.val (.bl false)) := by
  simp [m_l_is_name, mir, stE, N_l_is_name, g_l_is_name, h, h2]
def tkP (t : D × D) : D := .tup [t.1, t.2]
def OD : List D := [.str "", .str "A", .str "1a", .str "abcdefghi", .str "a-b", .int 7, .non, .bl true, .tup [.str "a"], .lst [.str "a"], .emp, .lst []]
def MD : List D := [.int 0, .int 21, .int (-3), .int 10000000000000000000000000, .bl true, .bl false, .non, .str "4", .lst [.int 4]]
structure OddN (d : D) : Prop where
  nm : m_is_name [.val d] = some (.val (.bl false))
  lm : m_l_is_name [.val d] = some (.val (.bl false))
  sm : sameD 7 d d = true
theorem s0 : ("" : Str) = mk [] := by decide +kernel
theorem sA : ("A" : Str) = mk [65] := by decide +kernel
theorem s1a : ("1a" : Str) = mk [49, 97] := by decide +kernel
theorem s9a : ("abcdefghi" : Str) = mk [97, 98, 99, 100, 101, 102, 103, 104, 105] := by decide +kernel
theorem sab : ("a-b" : Str) = mk [97, 45, 98] := by decide +kernel
theorem odd_of {d : D} (h : d ∈ OD) : OddN d := by
  simp only [OD, List.mem_cons, List.not_mem_nil, or_false] at h
  rcases h with rfl | rfl | rfl | rfl | rfl | rfl | rfl | rfl | rfl | rfl | rfl | rfl
  · exact ⟨e_no_name0, by rw [s0]; exact l_short (by decide) (.inl (by decide)), by decide +kernel⟩
  · exact ⟨by rw [sA]; exact e_no_nameS (by decide) (by decide +kernel), by rw [sA]; exact l_no (by decide) (by decide) ⟨0, by decide, by decide +kernel⟩, by decide +kernel⟩
  · exact ⟨by rw [s1a]; exact e_no_nameS (by decide) (by decide +kernel), by rw [s1a]; exact l_no (by decide) (by decide) ⟨0, by decide, by decide +kernel⟩, by decide +kernel⟩
  · exact ⟨by rw [s9a]; exact e_no_name9 (by decide) (by decide), by rw [s9a]; exact l_short (by decide) (.inr (by decide)), by decide +kernel⟩
  · exact ⟨by rw [sab]; exact e_no_nameD (by decide) (by decide) (by decide) (by decide), by rw [sab]; exact l_no (by decide) (by decide) ⟨1, by decide, by decide +kernel⟩, by decide +kernel⟩
  · exact ⟨e_no_name (t := "int") rfl (by decide), l_kind_no (t := "int") rfl (by decide), by decide +kernel⟩
  · exact ⟨e_no_name (t := "NoneType") rfl (by decide), l_kind_no (t := "NoneType") rfl (by decide), by decide +kernel⟩
  · exact ⟨e_no_name (t := "bool") rfl (by decide), l_kind_no (t := "bool") rfl (by decide), by decide +kernel⟩
  · exact ⟨e_no_name (t := "tuple") rfl (by decide), l_kind_no (t := "tuple") rfl (by decide), by decide +kernel⟩
  · exact ⟨e_no_name (t := "list") rfl (by decide), l_kind_no (t := "list") rfl (by decide), by decide +kernel⟩
  · exact ⟨e_no_name (t := "dict") rfl (by decide), l_kind_no (t := "dict") rfl (by decide), by decide +kernel⟩
  · exact ⟨e_no_name (t := "list") rfl (by decide), l_kind_no (t := "list") rfl (by decide), by decide +kernel⟩
def NmD (d : D) : Prop := (∃ n, d = .str n /\ NameOk n) ∨ OddN d
def NmM (m : D) : Prop := NumK m /\ sameD 7 m m = true
theorem same_ok {n : Nat} {d : D} {k : Nat} (h : Lay k d) (hk : k <= 64) (e : PyData.eqv (toP d) (toP d) = true) : sameD (n + 1) d d = true := by
  unfold sameD
  rw [h.ok hk, show eqD d d = true from e]
  rfl
theorem nmm_int (i : Int) : NmM (.int i) := ⟨trivial, same_ok (n := 6) (lay_int (i := i)) (by decide) (by show PyData.eqv (.int i) (.int i) = true; rw [eqv_int]; simp)⟩
theorem nmm_of {m : D} (h : m ∈ MD) : NmM m := by
  simp only [MD, List.mem_cons, List.not_mem_nil, or_false] at h
  rcases h with rfl | rfl | rfl | rfl | rfl | rfl | rfl | rfl | rfl
  · exact nmm_int _
  · exact nmm_int _
  · exact nmm_int _
  · exact nmm_int _
  · exact ⟨trivial, by decide +kernel⟩
  · exact ⟨trivial, by decide +kernel⟩
  · exact ⟨trivial, by decide +kernel⟩
  · exact ⟨trivial, by decide +kernel⟩
  · exact ⟨trivial, by decide +kernel⟩
theorem nmd_same {d : D} (h : NmD d) : sameD 7 d d = true := by
  rcases h with ⟨n, rfl, hn⟩ | h
  · exact same_ok (n := 6) (lay_str hn.ok) (by decide) (by show PyData.eqv (.str n) (.str n) = true; rw [eqv_str]; simp)
  · exact h.sm
def GoodP (q : List (D × D)) : Prop := ∀ t ∈ q, NmD t.1 /\ NmM t.2
theorem same_tk {t : D × D} (h : NmD t.1 /\ NmM t.2) : sameD 8 (tkP t) (tkP t) = true := by
  have e1 := nmd_same h.1
  have e2 := h.2.2
  show (_ || ((2 : Nat) == 2 && ([(t.1, t.1), (t.2, t.2)].all fun p => sameD 7 p.1 p.2))) = true
  simp [e1, e2]
theorem same_q {q : List (D × D)} (g : GoodP q) : fNeS (.lst (q.map tkP)) (.lst (q.map tkP)) = some (.bl false) := by
  show (if ((q.map tkP).length == (q.map tkP).length && (((q.map tkP).zip (q.map tkP)).all fun p => sameD 8 p.1 p.2)) = true then some (D.bl false) else none) = _
  rw [if_pos]
  rw [Bool.and_eq_true_iff]
  refine ⟨by simp, List.all_eq_true.mpr fun p hp => ?_⟩
  have : ∀ q : List (D × D), ∀ p ∈ (q.map tkP).zip (q.map tkP), ∃ t ∈ q, p = (tkP t, tkP t) := fun q => by
    induction q with
    | nil => intro p h; simp at h
    | cons t q ih =>
      intro p h
      rcases List.mem_cons.mp (show p ∈ (tkP t, tkP t) :: ((q.map tkP).zip (q.map tkP)) from h) with rfl | h
      · exact ⟨t, .head _, rfl⟩
      · obtain ⟨u, hu, e⟩ := ih p h
        exact ⟨u, .tail _ hu, e⟩
  obtain ⟨t, ht, rfl⟩ := this q p hp
  exact same_tk (g t ht)
inductive Vd where
  | good | noname | dbl (n : Str) | nonum
inductive Ver : List Str -> List (D × D) -> Vd -> Prop
  | nil {kn} : Ver kn [] .good
  | odd {kn d m r} (h : OddN d) : Ver kn ((d, m) :: r) .noname
  | dbl {kn n m r} (h : NameOk n) (hk : n ∈ kn) : Ver kn ((.str n, m) :: r) (.dbl n)
  | num {kn n m r} (h : NameOk n) (hk : n ∉ kn) (hm : NumK m) (hn : numD 1 20 m = false) : Ver kn ((.str n, m) :: r) .nonum
  | go {kn n i r v} (h : NameOk n) (hk : n ∉ kn) (hi : 1 <= i /\ i <= 20) (hr : Ver (kn ++ [n]) r v) : Ver kn ((.str n, .int i) :: r) v
theorem numk_int {k : D} (h : NumK k) {lo hi : Int} (h2 : numD lo hi k = true) : ∃ i : Int, k = .int i /\ lo <= i /\ i <= hi := by
  cases k <;> simp only [numD] at h2 <;> first | exact ⟨_, rfl, of_decide_eq_true h2⟩ | cases h2
theorem ver_ex : ∀ (q : List (D × D)) (kn : List Str), GoodP q -> ∃ v, Ver kn q v
  | [], kn, _ => ⟨_, .nil⟩
  | (d, m) :: q, kn, g => by
    obtain ⟨h1, h2, h3⟩ := g (d, m) List.mem_cons_self
    rcases h1 with ⟨n, rfl, hn⟩ | ho
    · by_cases hk : n ∈ kn
      · exact ⟨_, .dbl hn hk⟩
      · cases hd : numD 1 20 m with
        | false => exact ⟨_, .num hn hk h2 hd⟩
        | true =>
          obtain ⟨i, rfl, hi⟩ := numk_int h2 hd
          obtain ⟨v, hv⟩ := ver_ex q (kn ++ [n]) fun t ht => g t (List.mem_cons_of_mem _ ht)
          exact ⟨v, .go hn hk hi hv⟩
    · exact ⟨_, .odd ho⟩
def mp (done : List Str) : List (Key × D) := done.map fun n => (.inr n, .bl true)
theorem look_mp (x : Str) : ∀ done : List Str, (lookD (mp done) (.inr x)).isSome = decide (x ∈ done)
  | [] => rfl
  | y :: done => by
    have ih := look_mp x done
    unfold lookD mp at ih ⊢
    by_cases h : y = x
    · simp [h]
    · have h' : ¬ x = y := fun z => h z.symm
      simp [h, h'] at ih ⊢; exact ih
theorem put_mp {x : Str} {done : List Str} (h : x ∉ done) : putD (mp done) (.inr x) (.bl true) = mp (done ++ [x]) := by
  unfold putD
  rw [if_neg ?_]
  · simp [mp]
  · simp [mp]
    exact h
theorem line_small {n : Nat} (h : n <= 1000) : n < sizeLine := by rw [sizeLine_eq]; omega
section
variable {X0 : Option En} {oa : Option Addr} {done : List Str} {n : Str} {d m : D} {i : Int}
theorem chk_body (h1 : NameOk n) (hi : 1 <= i /\ i <= 20) (hn : n ∉ done) (hl : done.length <= 100) :
    b_check_queue_0 [X0, some (.dct oa (mp done)), some (.val (.str n)), some (.val (.int i))] = some (.next [X0, some (.dct oa (mp (done ++ [n]))), some (.val (.str n)), some (.val (.int i))]) := by
  have e1 := e_is_name h1
  have e2 := look_mp n done
  rw [decide_eq_false hn] at e2
  have e3 := e_is_number (d := .int i) trivial 1 20
  have e4 : numD 1 20 (.int i) = true := decide_eq_true hi
  rw [e4] at e3
  have e5 := put_mp hn
  have e6 : (mp done).length < sizeLine := line_small (by simp [mp]; omega)
  simp [b_check_queue_0, e1, e2, e3, e5, e6, dKey]
theorem chk_odd (h : OddN d) : b_check_queue_0 [X0, some (.dct oa (mp done)), some (.val d), some (.val m)] = none := by
  have e := h.nm
  simp [b_check_queue_0, e, sNever]
theorem chk_dbl (h : NameOk n) (hk : n ∈ done) : b_check_queue_0 [X0, some (.dct oa (mp done)), some (.val (.str n)), some (.val m)] = none := by
  have e1 := e_is_name h
  have e2 := look_mp n done
  rw [decide_eq_true hk] at e2
  simp [b_check_queue_0, e1, e2, dKey, sNever]
theorem chk_num (h : NameOk n) (hk : n ∉ done) (hm : NumK m) (hm2 : numD 1 20 m = false) : b_check_queue_0 [X0, some (.dct oa (mp done)), some (.val (.str n)), some (.val m)] = none := by
  have e1 := e_is_name h
  have e2 := look_mp n done
  rw [decide_eq_false hk] at e2
  have e3 := e_is_number hm 1 20
  rw [hm2] at e3
  simp [b_check_queue_0, e1, e2, e3, dKey, sNever]
def Fault (kn : List Str) (d m : D) : Vd -> Prop
  | .good => False
  | .noname => OddN d
  | .dbl n => d = .str n /\ NameOk n /\ n ∈ kn
  | .nonum => ∃ n, d = .str n /\ NameOk n /\ n ∉ kn /\ NumK m /\ numD 1 20 m = false
def Run (X0 : Option En) (oa : Option Addr) (kn : List Str) (q : List (D × D)) (a b : Option En) : Vd -> Prop
  | .good => ∃ kn' a' b', forD (.tup [2, 3]) b_check_queue_0 (q.map tkP) [X0, some (.dct oa (mp kn)), a, b] = some (.next [X0, some (.dct oa (mp kn')), a', b'])
  | v => forD (.tup [2, 3]) b_check_queue_0 (q.map tkP) [X0, some (.dct oa (mp kn)), a, b] = none /\ ∃ kn' d m, Fault kn' d m v /\
      ∀ gx, forX (.tup [2, 3]) b_check_queue_0 gx (q.map tkP) [X0, some (.dct oa (mp kn)), a, b] = gx [X0, some (.dct oa (mp kn')), some (.val d), some (.val m)]
theorem asg2 (X0 D0 a b : Option En) (d m : D) : asgD (.tup [2, 3]) (tkP (d, m)) [X0, D0, a, b] = some [X0, D0, some (.val d), some (.val m)] := rfl
theorem stop {v : Vd} {kn : List Str} {q : List (D × D)} {a b : Option En} (hv : v ≠ .good) (hf : Fault kn d m v) (hb : b_check_queue_0 [X0, some (.dct oa (mp kn)), some (.val d), some (.val m)] = none) : Run X0 oa kn ((d, m) :: q) a b v := by
  have r : forD (.tup [2, 3]) b_check_queue_0 (((d, m) :: q).map tkP) [X0, some (.dct oa (mp kn)), a, b] = none /\ ∃ kn' d' m', Fault kn' d' m' v /\
      ∀ gx, forX (.tup [2, 3]) b_check_queue_0 gx (((d, m) :: q).map tkP) [X0, some (.dct oa (mp kn)), a, b] = gx [X0, some (.dct oa (mp kn')), some (.val d'), some (.val m')] := by
    refine ⟨?_, kn, d, m, hf, fun gx => ?_⟩
    · rw [List.map_cons, ev_forS, asg2, Option.bind_some, hb]; rfl
    · rw [List.map_cons]
      show ((asgD (.tup [2, 3]) (tkP (d, m)) [X0, some (.dct oa (mp kn)), a, b]).bind _) = _
      rw [asg2, Option.bind_some, hb]
  cases v with
  | good => exact (hv rfl).elim
  | _ => exact r
theorem run_of {kn : List Str} {q : List (D × D)} {v : Vd} (h : Ver kn q v) : ∀ a b, kn.length + q.length <= 100 -> Run X0 oa kn q a b v := by
  induction h with
  | @nil kn => exact fun a b _ => ⟨kn, a, b, by simp⟩
  | odd ho => exact fun a b _ => stop (by intro z; cases z) ho (chk_odd ho)
  | dbl hn hk => exact fun a b _ => stop (by intro z; cases z) ⟨rfl, hn, hk⟩ (chk_dbl hn hk)
  | num hn hk hm h2 => exact fun a b _ => stop (by intro z; cases z) ⟨_, rfl, hn, hk, hm, h2⟩ (chk_num hn hk hm h2)
  | @go kn n i r v hn hk hi hr ih =>
    intro a b hl
    simp only [List.length_cons] at hl
    have c := chk_body (X0 := X0) (oa := oa) hn hi hk (by omega)
    have p := ih (some (.val (.str n))) (some (.val (.int i))) (by simp; omega)
    have e1 : forD (.tup [2, 3]) b_check_queue_0 (((.str n, .int i) :: r).map tkP) [X0, some (.dct oa (mp kn)), a, b] = forD (.tup [2, 3]) b_check_queue_0 (r.map tkP) [X0, some (.dct oa (mp (kn ++ [n]))), some (.val (.str n)), some (.val (.int i))] := by
      rw [List.map_cons, ev_forS, asg2, Option.bind_some, c]; rfl
    have e2 : ∀ gx, forX (.tup [2, 3]) b_check_queue_0 gx (((.str n, .int i) :: r).map tkP) [X0, some (.dct oa (mp kn)), a, b] = forX (.tup [2, 3]) b_check_queue_0 gx (r.map tkP) [X0, some (.dct oa (mp (kn ++ [n]))), some (.val (.str n)), some (.val (.int i))] := fun gx => by
      rw [List.map_cons]
      show ((asgD (.tup [2, 3]) (tkP (.str n, .int i)) [X0, some (.dct oa (mp kn)), a, b]).bind _) = _
      rw [asg2, Option.bind_some, c]
    cases v with
    | good =>
      obtain ⟨kn', a', b', p⟩ := p
      exact ⟨kn', a', b', by rw [e1]; exact p⟩
    | _ =>
      obtain ⟨p1, kn', d, m, p2, p3⟩ := p
      exact ⟨by rw [e1]; exact p1, kn', d, m, p2, fun gx => by rw [e2]; exact p3 gx⟩
end
theorem xb_eq2 : xb_check_queue_0 = b_check_queue_0 := rfl
def xvOf : Vd -> Xv
  | .dbl n => ("Doubled", some (.str n))
  | .noname => ("NoName", none)
  | _ => ("NoNumber", none)
section
variable {q : List (D × D)} {v : Vd}
theorem many_check (hl : 60 < q.length) : m_check_queue [.val (.lst (q.map tkP))] = none /\ mx_check_queue [.val (.lst (q.map tkP))] = some (("TooMany" : Str), none) := by
  have hl' : (60 : Int) < (q.length : Int) := by omega
  constructor
  · simp [m_check_queue, mir, stE, N_check_queue, g_check_queue, hl', sNever, outO]
  · simp [mx_check_queue, mirY, stE, N_check_queue, gx_check_queue, yAlt, yIf, yRaise0, hl']
theorem good_check (hl : q.length <= 60) (h : Ver [] q .good) : m_check_queue [.val (.lst (q.map tkP))] = some (.val (.bl true)) := by
  obtain ⟨kn', a', b', p⟩ := run_of (X0 := some (.val (.lst (q.map tkP)))) (oa := none) h none none (by simp; omega)
  have hl' : ¬ (60 : Int) < (q.length : Int) := by omega
  simp only [m_check_queue, mir, stE, N_check_queue, g_check_queue]
  simp [mp] at p
  simp [hl', p]
theorem bad_check (hl : q.length <= 60) (h : Ver [] q v) (hv : v ≠ .good) : m_check_queue [.val (.lst (q.map tkP))] = none /\ mx_check_queue [.val (.lst (q.map tkP))] = some (xvOf v) := by
  have hl' : ¬ (60 : Int) < (q.length : Int) := by omega
  have r := run_of (X0 := some (.val (.lst (q.map tkP)))) (oa := none) h none none (by simp; omega)
  have r : forD (.tup [2, 3]) b_check_queue_0 (q.map tkP) [some (.val (.lst (q.map tkP))), some (.dct none []), none, none] = none /\ ∃ kn' d m, Fault kn' d m v /\
      ∀ gx, forX (.tup [2, 3]) b_check_queue_0 gx (q.map tkP) [some (.val (.lst (q.map tkP))), some (.dct none []), none, none] = gx [some (.val (.lst (q.map tkP))), some (.dct none (mp kn')), some (.val d), some (.val m)] := by
    cases v with
    | good => exact (hv rfl).elim
    | _ => exact r
  obtain ⟨p, kn', d, m, hf, p2⟩ := r
  constructor
  · simp only [m_check_queue, mir, stE, N_check_queue, g_check_queue]
    simp [hl', p, outO]
  · simp only [mx_check_queue, mirY, stE, N_check_queue, gx_check_queue, xb_eq2]
    simp [yAlt, yIf, yNo, ySeq, yFor, hl', p2]
    cases v with
    | good => exact (hv rfl).elim
    | noname =>
      have e := hf.nm
      simp [e, yRaise0, xvOf]
    | dbl n =>
      obtain ⟨rfl, hn, hk⟩ := hf
      have e1 := e_is_name hn
      have e2 := look_mp n kn'
      rw [decide_eq_true hk] at e2
      simp [e1, e2, dKey, yRaise, xvOf]
    | nonum =>
      obtain ⟨n, rfl, hn, hk, hm, h2⟩ := hf
      have e1 := e_is_name hn
      have e2 := look_mp n kn'
      rw [decide_eq_false hk] at e2
      have e3 := e_is_number hm 1 20
      rw [h2] at e3
      simp [e1, e2, e3, dKey, yRaise0, xvOf]
end
def resD (w : Str) (p : D) : D := .tup [.str w, p]
def duD : Vd -> D
  | .good => resD "good" .non
  | .noname => resD "NoName" .non
  | .dbl n => resD "Doubled" (.str n)
  | .nonum => resD "NoNumber" .non
section
variable {X0 : Option En} {kn : List Str} {n : Str} {d m : D} {i : Int}
theorem due_go (h1 : NameOk n) (hi : 1 <= i /\ i <= 20) (hn : n ∉ kn) (hl : kn.length <= 100) :
    b_l_due_0 [X0, some (.acc (kn.map D.str)), some (.val (.str n)), some (.val (.int i))] = some (.next [X0, some (.acc ((kn ++ [n]).map D.str)), some (.val (.str n)), some (.val (.int i))]) := by
  have e1 := l_yes h1
  have e2 := fIn_strs (neg := false) (x := n) (ys := kn)
  rw [decide_eq_false hn] at e2
  simp at e2
  have h2 : ¬ i < 1 := by omega
  have h3 : ¬ 20 < i := by omega
  have tl : kn.length <= TOP := top_small (by omega)
  simp [b_l_due_0, e1, e2, sII, sIB, h2, h3, tl]
theorem due_odd (h : OddN d) : b_l_due_0 [X0, some (.acc (kn.map D.str)), some (.val d), some (.val m)] = some (.ret (.val (duD .noname))) := by
  have e := h.lm
  have t2 : 2 <= TOP := by decide
  simp [b_l_due_0, e, t2, duD, resD]
theorem due_dbl (h : NameOk n) (hk : n ∈ kn) : b_l_due_0 [X0, some (.acc (kn.map D.str)), some (.val (.str n)), some (.val m)] = some (.ret (.val (duD (.dbl n)))) := by
  have e1 := l_yes h
  have e2 := fIn_strs (neg := false) (x := n) (ys := kn)
  rw [decide_eq_true hk] at e2
  simp at e2
  have t2 : 2 <= TOP := by decide
  simp [b_l_due_0, e1, e2, t2, duD, resD]
theorem due_num (h : NameOk n) (hk : n ∉ kn) : ∀ {m : D}, NumK m -> numD 1 20 m = false -> b_l_due_0 [X0, some (.acc (kn.map D.str)), some (.val (.str n)), some (.val m)] = some (.ret (.val (duD .nonum))) := by
  have e1 := l_yes h
  have e2 := fIn_strs (neg := false) (x := n) (ys := kn)
  rw [decide_eq_false hk] at e2
  simp at e2
  have t2 : 2 <= TOP := by decide
  intro m hm h2
  match m, hm, h2 with
  | .int i, _, h2 =>
    have h2 : ¬ (1 <= i /\ i <= 20) := of_decide_eq_false h2
    by_cases h3 : i < 1
    · simp [b_l_due_0, e1, e2, sII, sIB, h3, t2, duD, resD]
    · have h4 : 20 < i := by omega
      simp [b_l_due_0, e1, e2, sII, sIB, h3, h4, t2, duD, resD]
  | .non, _, _ => simp [b_l_due_0, e1, e2, sNI, t2, duD, resD]
  | .bl b, _, _ => simp [b_l_due_0, e1, e2, sBI, sBB, t2, duD, resD]
  | .str x, _, _ => simp [b_l_due_0, e1, e2, sSI, t2, duD, resD]
  | .lst x, _, _ => simp [b_l_due_0, e1, e2, sLI, t2, duD, resD]
def RunL (X0 : Option En) (kn : List Str) (q : List (D × D)) (a b : Option En) : Vd -> Prop
  | .good => ∃ (kn' : List Str) (a' b' : Option En), forD (.tup [2, 3]) b_l_due_0 (q.map tkP) [X0, some (.acc (kn.map D.str)), a, b] = some (.next [X0, some (.acc (kn'.map D.str)), a', b'])
  | v => forD (.tup [2, 3]) b_l_due_0 (q.map tkP) [X0, some (.acc (kn.map D.str)), a, b] = some (.ret (.val (duD v)))
theorem stopL {v : Vd} {q : List (D × D)} {a b : Option En} (hv : v ≠ .good) (hb : b_l_due_0 [X0, some (.acc (kn.map D.str)), some (.val d), some (.val m)] = some (.ret (.val (duD v)))) : RunL X0 kn ((d, m) :: q) a b v := by
  have r : forD (.tup [2, 3]) b_l_due_0 (((d, m) :: q).map tkP) [X0, some (.acc (kn.map D.str)), a, b] = some (.ret (.val (duD v))) := by
    rw [List.map_cons, ev_forS, asg2, Option.bind_some, hb]; rfl
  cases v with
  | good => exact (hv rfl).elim
  | _ => exact r
theorem runL_of {kn : List Str} {q : List (D × D)} {v : Vd} (h : Ver kn q v) : ∀ a b, kn.length + q.length <= 100 -> RunL X0 kn q a b v := by
  induction h with
  | @nil kn => exact fun a b _ => ⟨kn, a, b, by simp⟩
  | odd ho => exact fun a b _ => stopL (by intro z; cases z) (due_odd ho)
  | dbl hn hk => exact fun a b _ => stopL (by intro z; cases z) (due_dbl hn hk)
  | num hn hk hm h2 => exact fun a b _ => stopL (by intro z; cases z) (due_num hn hk hm h2)
  | @go kn n i r v hn hk hi hr ih =>
    intro a b hl
    simp only [List.length_cons] at hl
    have c := due_go (X0 := X0) hn hi hk (by omega)
    have p := ih (some (.val (.str n))) (some (.val (.int i))) (by simp; omega)
    have e1 : forD (.tup [2, 3]) b_l_due_0 (((.str n, .int i) :: r).map tkP) [X0, some (.acc (kn.map D.str)), a, b] = forD (.tup [2, 3]) b_l_due_0 (r.map tkP) [X0, some (.acc ((kn ++ [n]).map D.str)), some (.val (.str n)), some (.val (.int i))] := by
      rw [List.map_cons, ev_forS, asg2, Option.bind_some, c]; rfl
    cases v with
    | good =>
      obtain ⟨kn', a', b', p⟩ := p
      exact ⟨kn', a', b', by rw [e1]; exact p⟩
    | _ => exact e1.trans p
end
section
variable {q : List (D × D)} {v : Vd}
theorem due_many (hl : 60 < q.length) : m_l_due [.val (.lst (q.map tkP))] = some (.val (resD "TooMany" .non)) := by
  have hl' : (60 : Int) < (q.length : Int) := by omega
  have t2 : 2 <= TOP := by decide
  simp [m_l_due, mir, stE, N_l_due, g_l_due, hl', t2, resD]
theorem due_ver (hl : q.length <= 60) (h : Ver [] q v) : m_l_due [.val (.lst (q.map tkP))] = some (.val (duD v)) := by
  have hl' : ¬ (60 : Int) < (q.length : Int) := by omega
  have t2 : 2 <= TOP := by decide
  have t0 : 0 <= TOP := by decide
  have r := runL_of (X0 := some (.val (.lst (q.map tkP)))) h none none (by simp; omega)
  simp only [m_l_due, mir, stE, N_l_due, g_l_due]
  cases v with
  | good =>
    obtain ⟨kn', a', b', p⟩ := r
    simp at p
    simp [hl', p, t2, t0, duD, resD]
  | noname =>
    have p : forD (.tup [2, 3]) b_l_due_0 (q.map tkP) [some (.val (.lst (q.map tkP))), some (.acc []), none, none] = _ := r
    simp [hl', p, t0]
  | dbl n =>
    have p : forD (.tup [2, 3]) b_l_due_0 (q.map tkP) [some (.val (.lst (q.map tkP))), some (.acc []), none, none] = _ := r
    simp [hl', p, t0]
  | nonum =>
    have p : forD (.tup [2, 3]) b_l_due_0 (q.map tkP) [some (.val (.lst (q.map tkP))), some (.acc []), none, none] = _ := r
    simp [hl', p, t0]
theorem ind_l_kind (ea : Addr) (isx : Nat -> Bool) : m_l_kind ea isx [.exn ea] = m_l_kind 0 isx [.exn 0] := by
  have t1 : 1 <= TOP := by decide
  have t2 : 2 <= TOP := by decide
  have t3 : 3 <= TOP := by decide
  have t4 : 4 <= TOP := by decide
  cases h0 : isx 0 <;> cases h1 : isx 1 <;> cases h2 : isx 2 <;> cases h3 : isx 3 <;> cases h4 : isx 4 <;> simp [m_l_kind, mir, stE, N_l_kind, g_l_kind, h0, h1, h2, h3, h4, t1, t2, t3, t4]
theorem kind_dbl : m_l_kind 0 (isxL [true, false, true, false, false]) [.exn 0] = some (.val (.str "Doubled")) := by
  have t0 : 0 <= TOP := by decide
  simp [m_l_kind, mir, stE, N_l_kind, g_l_kind, isxL, t0]
theorem kind_many : m_l_kind 0 (isxL [true, false, false, false, true]) [.exn 0] = some (.val (.str "TooMany")) := by
  have t0 : 0 <= TOP := by decide
  simp [m_l_kind, mir, stE, N_l_kind, g_l_kind, isxL, t0]
theorem kind_name : m_l_kind 0 (isxL [true, false, false, true, false]) [.exn 0] = some (.val (.str "NoName")) := by
  have t0 : 0 <= TOP := by decide
  simp [m_l_kind, mir, stE, N_l_kind, g_l_kind, isxL, t0]
theorem kind_num : m_l_kind 0 (isxL [true, true, false, false, false]) [.exn 0] = some (.val (.str "NoNumber")) := by
  have t0 : 0 <= TOP := by decide
  simp [m_l_kind, mir, stE, N_l_kind, g_l_kind, isxL, t0]
theorem ne1 : (("TooMany" : Str) == "Doubled") = false := by decide +kernel
theorem ne2 : (("NoName" : Str) == "Doubled") = false := by decide +kernel
theorem ne3 : (("NoName" : Str) == "TooMany") = false := by decide +kernel
theorem ne4 : (("NoNumber" : Str) == "Doubled") = false := by decide +kernel
theorem ne5 : (("NoNumber" : Str) == "TooMany") = false := by decide +kernel
theorem ne6 : (("NoNumber" : Str) == "NoName") = false := by decide +kernel
theorem told_many (hl : 60 < q.length) : m_l_told [.val (.lst (q.map tkP))] = some (.val (resD "TooMany" .non)) := by
  obtain ⟨h1, h2⟩ := many_check hl
  have t2 : 2 <= TOP := by decide
  simp [m_l_told, mir, stE, N_l_told, g_l_told, sTryV, yE, yCall, h1, h2, pickV, List.lookup, ne1, okV, suD, jCall, jPay, kind_many, t2, resD]
theorem told_ver (hl : q.length <= 60) (h : Ver [] q v) : m_l_told [.val (.lst (q.map tkP))] = some (.val (duD v)) := by
  have t2 : 2 <= TOP := by decide
  cases v with
  | good =>
    have h1 := good_check hl h
    simp [m_l_told, mir, stE, N_l_told, g_l_told, sTryV, h1, t2, duD, resD]
  | noname =>
    obtain ⟨h1, h2⟩ := bad_check hl h (by intro z; cases z)
    simp [xvOf] at h2
    simp [m_l_told, mir, stE, N_l_told, g_l_told, sTryV, yE, yCall, h1, h2, pickV, List.lookup, ne2, ne3, okV, suD, jCall, jPay, kind_name, t2, duD, resD]
  | dbl n =>
    obtain ⟨h1, h2⟩ := bad_check hl h (by intro z; cases z)
    simp [xvOf] at h2
    simp [m_l_told, mir, stE, N_l_told, g_l_told, sTryV, yE, yCall, h1, h2, pickV, List.lookup, okV, suD, jCall, jPay, kind_dbl, t2, duD, resD]
  | nonum =>
    obtain ⟨h1, h2⟩ := bad_check hl h (by intro z; cases z)
    simp [xvOf] at h2
    simp [m_l_told, mir, stE, N_l_told, g_l_told, sTryV, yE, yCall, h1, h2, pickV, List.lookup, ne4, ne5, ne6, okV, suD, jCall, jPay, kind_num, t2, duD, resD]
end
theorem eq_res {w : Str} {p : D} {k : Nat} (hw : Ok w) (hp : Lay k p) (hk : k <= 60) (e : PyData.eqv (toP p) (toP p) = true) {neg : Bool} : fEq neg (resD w p) (resD w p) = some (.bl (!neg)) := by
  have h1 := lay_str hw
  have lay : Lay (k + 1) (resD w p) := by
    refine ⟨?_, ?_⟩
    · show (PyData.canLay0 (.str w) && (PyData.canLay0 (toP p) && true)) = true
      rw [show PyData.canLay0 (.str w) = true from h1.1, hp.1]; rfl
    · show max (PyData.depth (.str w)) (max (PyData.depth (toP p)) 0) + 1 <= k + 1
      have := hp.2
      have := h1.2
      simp only [toP] at *
      omega
  have := fEq_of (neg := neg) (x := resD w p) (y := resD w p) (b := true) lay lay (by omega) (by omega) (by
    show (PyData.eqv (.str w) (.str w) && (PyData.eqv (toP p) (toP p) && true)) = true
    rw [eqv_str, e]; simp)
  rw [this]
  cases neg <;> rfl
theorem lay_non : Lay 0 .non := ⟨rfl, Nat.le_refl _⟩
theorem eq_du (v : Vd) (h : ∀ n, v = .dbl n -> Ok n) : fEq true (duD v) (duD v) = some (.bl false) := by
  cases v with
  | good => exact eq_res (by decide +kernel) lay_non (by decide) rfl
  | noname => exact eq_res (by decide +kernel) lay_non (by decide) rfl
  | nonum => exact eq_res (by decide +kernel) lay_non (by decide) rfl
  | dbl n => exact eq_res (by decide +kernel) (lay_str (h n rfl)) (by decide) (by show PyData.eqv (.str n) (.str n) = true; rw [eqv_str]; simp)
theorem ver_ok {kn : List Str} {q : List (D × D)} {v : Vd} (h : Ver kn q v) : ∀ n, v = .dbl n -> Ok n := by
  induction h with
  | dbl hn hk => intro n e; cases e; exact hn.ok
  | go hn hk hi hr ih => exact ih
  | _ => intro n e; cases e
theorem agree {q : List (D × D)} (g : GoodP q) : ∃ r : D, m_l_told [.val (.lst (q.map tkP))] = some (.val r) /\ m_l_due [.val (.lst (q.map tkP))] = some (.val r) /\ fEq true r r = some (.bl false) := by
  by_cases hl : q.length <= 60
  · obtain ⟨v, hv⟩ := ver_ex q [] g
    exact ⟨_, told_ver hl hv, due_ver hl hv, eq_du v (ver_ok hv)⟩
  · exact ⟨_, told_many (by omega), due_many (by omega), eq_res (by decide +kernel) lay_non (by decide) rfl⟩
theorem cut_hiN {α : Type} {xs : List α} {i : Nat} : Dv.cutD xs none (some (i : Int)) = xs.take i := by rw [cut_hi (by omega)]; simp
theorem cut_loN {α : Type} {xs : List α} {i : Nat} : Dv.cutD xs (some ((i : Int) + 1)) none = xs.drop (i + 1) := by rw [cut_lo (by omega)]; congr 1
def bN (c : Int) (k : Nat) : List Nat := nmK c (k % 26) ++ [48 + k / 26]
theorem nmK_len (c : Int) (k : Nat) : (nmK c k).length = (c % 8).toNat + 1 := by
  have h1 := word_len c
  have h2 := wat_le c
  unfold nmK
  rw [List.length_append, List.length_cons, List.length_take, List.length_drop]
  omega
theorem bN_ok {c : Int} (hc : c % 8 <= 6) {k : Nat} (hk : k < 78) : NameOk (mk (bN c k)) := by
  obtain ⟨a, cs, e, h1, h2, h3⟩ := nmK_ok c (k % 26)
  have e := mk_inj e
  have hl := nmK_len c (k % 26)
  unfold bN
  rw [e] at hl ⊢
  simp at hl
  refine ⟨a, cs ++ [48 + k / 26], rfl, h1, fun d hd => ?_, by simp; omega⟩
  rcases List.mem_append.mp hd with z | z
  · exact h2 d z
  · rw [List.mem_singleton.mp z]
    have : k / 26 = 0 ∨ k / 26 = 1 ∨ k / 26 = 2 := by omega
    rcases this with z | z | z <;> rw [z] <;> decide
theorem fig {a : Nat} (h : a < 3) : fStr [.int (a : Int)] = some (.str (mk [48 + a])) := by
  have : a = 0 ∨ a = 1 ∨ a = 2 := by omega
  rcases this with rfl | rfl | rfl <;> rfl
theorem e_l_many (z : Int) (k : Nat) (hk : k < 78) : ∃ n, NameOk n /\ m_l_many_named [.val (.int z), .val (.int (k : Int))] = some (.val (.str n)) := by
  have hc : (z - z % 8 + z % 8 % 7) % 8 <= 6 := by omega
  refine ⟨_, bN_ok hc hk, ?_⟩
  have e1 := e_l_name (z - z % 8 + z % 8 % 7) (k % 26)
  have f := fig (a := k / 26) (by omega)
  have ek : ((k % 26 : Nat) : Int) = (k : Int) % 26 := by omega
  have ed : ((k / 26 : Nat) : Int) = (k : Int) / 26 := by omega
  rw [ek] at e1
  rw [ed] at f
  have tl : (nmK (z - z % 8 + z % 8 % 7) (k % 26)).length + 1 <= TOP := top_small (by rw [nmK_len]; omega)
  simp at e1 f
  simp [m_l_many_named, mir, stE, N_l_many_named, g_l_many_named, mod_ok, div_ok, e1, f, mk_len, mk_app, tl, bN]
theorem atI_tk {q : List (D × D)} {a : Int} (h1 : 0 <= a) (h2 : a < q.length) : ∃ t ∈ q, atI (q.map tkP) a = some (tkP t) := by
  obtain ⟨t, ht, _⟩ := atI_pos (xs := q) h1 h2
  exact ⟨t, atI_mem ht, by rw [atI_map, ht]; rfl⟩
theorem e_l_spoilt {q : List (D × D)} (g : GoodP q) (hl : q.length <= 100) (hne : q ≠ []) (v1 v2 v3 : Int) : ∃ q' : List (D × D), GoodP q' /\ q'.length <= q.length /\
    m_l_spoilt [.val (.lst (q.map tkP)), .val (.lst [.int v1, .int v2, .int v3])] = some (.acc (q'.map tkP)) := by
  have hp : 0 < (q.length : Int) := by have := List.length_pos_iff.mpr hne; omega
  have a1 := Int.emod_nonneg v1 (show (q.length : Int) ≠ 0 by omega)
  have a2 := Int.emod_lt_of_pos v1 hp
  have b1 := Int.emod_nonneg v3 (show (q.length : Int) ≠ 0 by omega)
  have b2 := Int.emod_lt_of_pos v3 hp
  obtain ⟨t, ht, et⟩ := atI_tk (q := q) a1 a2
  obtain ⟨u, hu, eu⟩ := atI_tk (q := q) b1 b2
  obtain ⟨d, hd, _⟩ := atI_pos (xs := OD) (a := v3 % 12) (by omega) (by simp [OD]; omega)
  obtain ⟨m, hm, _⟩ := atI_pos (xs := MD) (a := v3 % 9) (by omega) (by simp [MD]; omega)
  have hd2 := odd_of (atI_mem hd)
  have hm2 := nmm_of (atI_mem hm)
  obtain ⟨J, hJ⟩ : ∃ J : Nat, v1 % (q.length : Int) = (J : Int) := ⟨(v1 % (q.length : Int)).toNat, by omega⟩
  have hJl : J < q.length := by omega
  have mk' : ∀ t' : D × D, NmD t'.1 /\ NmM t'.2 -> GoodP (q.take J ++ [t'] ++ q.drop (J + 1)) /\ (q.take J ++ [t'] ++ q.drop (J + 1)).length <= q.length := fun t' h => by
    refine ⟨fun x hx => ?_, by simp; omega⟩
    rcases List.mem_append.mp hx with hx | hx
    · rcases List.mem_append.mp hx with hx | hx
      · exact g x (List.mem_of_mem_take hx)
      · rw [List.mem_singleton.mp hx]; exact h
    · exact g x (List.mem_of_mem_drop hx)
  have t0 : 0 <= TOP := by decide
  have t1 : 1 <= TOP := by decide
  have t2 : 2 <= TOP := by decide
  have t9 : 9 <= TOP := by decide
  have tC : 12 <= TOP := by decide
  have i0 : ∀ a b c : D, atI [a, b, c] 0 = some a := fun _ _ _ => rfl
  have i1 : ∀ a b c : D, atI [a, b, c] 1 = some b := fun _ _ _ => rfl
  have i2 : ∀ a b c : D, atI [a, b, c] 2 = some c := fun _ _ _ => rfl
  have hpow : fPow (.int 10) (.int 25) = some (.int 10000000000000000000000000) := by rfl
  have lq : (q.map tkP).length = q.length := by simp
  have l1 : min J q.length + 1 <= TOP := top_small (by omega)
  have l2 : min J q.length + 1 + (q.length - (J + 1)) <= TOP := top_small (by omega)
  unfold OD at hd
  unfold MD at hm
  rw [hJ] at et
  have em : ∀ t' : D × D, (q.take J ++ [t'] ++ q.drop (J + 1)).map tkP = (q.map tkP).take J ++ [.tup [t'.1, t'.2]] ++ (q.map tkP).drop (J + 1) := fun t' => by simp [List.map_take, List.map_drop, tkP]
  have asg : ∀ X0 X1 X2 X3 X4 : Option En, asgD (.tup [3, 4]) (tkP t) [X0, X1, X2, X3, X4] = some [X0, X1, X2, some (.val t.1), some (.val t.2)] := fun _ _ _ _ _ => rfl
  have ui : fItem (tkP u) (.int 0) = some u.1 := rfl
  by_cases h0 : v2 = 0
  · refine ⟨_, (mk' (d, t.2) ⟨.inr hd2, (g t ht).2⟩).1, (mk' (d, t.2) ⟨.inr hd2, (g t ht).2⟩).2, ?_⟩
    rw [em]
    generalize hQ : q.map tkP = QS at *
    simp [m_l_spoilt, mir, stE, N_l_spoilt, g_l_spoilt, i0, i1, i2, mod_ok hp, mod_ok, lq, hJ, et, asg, h0, hd, tC, t0, t1, t2, cut_hiN, cut_loN, l1, l2]
  · by_cases h1 : v2 = 1
    · refine ⟨_, (mk' (u.1, t.2) ⟨(g u hu).1, (g t ht).2⟩).1, (mk' (u.1, t.2) ⟨(g u hu).1, (g t ht).2⟩).2, ?_⟩
      rw [em]
      generalize hQ : q.map tkP = QS at *
      simp [m_l_spoilt, mir, stE, N_l_spoilt, g_l_spoilt, i0, i1, i2, mod_ok hp, mod_ok, lq, hJ, et, eu, ui, asg, h1, t0, t1, t2, cut_hiN, cut_loN, l1, l2]
    · refine ⟨_, (mk' (t.1, m) ⟨(g t ht).1, hm2⟩).1, (mk' (t.1, m) ⟨(g t ht).1, hm2⟩).2, ?_⟩
      rw [em]
      generalize hQ : q.map tkP = QS at *
      simp [m_l_spoilt, mir, stE, N_l_spoilt, g_l_spoilt, i0, i1, i2, mod_ok hp, mod_ok, lq, hJ, et, asg, h0, h1, hm, hpow, t9, t0, t1, t2, cut_hiN, cut_loN, l1, l2]
theorem many_comp (ns : List Int) (l st : Int) : ∀ ks : List Nat, (∀ k ∈ ks, k < 78) -> ∃ q : List (D × D), GoodP q /\ q.length = ks.length /\
    compD (.name 0) tYes e_law_1 [none, some (.val (.scr ns)), some (.val (.int l)), some (.val (.int st))] (ks.map fun (k : Nat) => D.int (0 + (k : Int))) = some (q.map tkP)
  | [], _ => ⟨[], (fun t ht => by cases ht), rfl, by simp⟩
  | k :: ks, h => by
    obtain ⟨q, g, hl, p⟩ := many_comp ns l st ks fun j hj => h j (List.mem_cons_of_mem _ hj)
    have e0 := e_l_cell ns 1
    obtain ⟨n, hn, e1⟩ := e_l_many (ns.getD 1 0) k (h k List.mem_cons_self)
    have t2 : 2 <= TOP := by decide
    have hb : ((k : Int)).natAbs < 78 := by have := h k List.mem_cons_self; omega
    refine ⟨(.str n, .int (1 + (l + st * k) % 20)) :: q, fun t ht => ?_, by simp [hl], ?_⟩
    · rcases List.mem_cons.mp ht with rfl | ht
      · exact ⟨.inl ⟨n, rfl, hn⟩, nmm_int _⟩
      · exact g t ht
    · have m0 : fMul (.int st) (.int (k : Int)) = some (.int (st * k)) := mul_r (by unfold LIM; omega) (by have := h k List.mem_cons_self; unfold LIM; omega)
      simp only [List.map_cons, ev_compS, p]
      simp at e0 e1
      simp [e_law_1, e0, e1, m0, mod_ok, t2, tkP]
theorem law_in (ns : List Int) {q : List (D × D)} (g : GoodP q) (hl : q.length <= 100) (a0 k : Nat) (X2 X3 X4 X5 X8 : Option En) : ∃ q' : List (D × D), GoodP q' /\ q'.length <= q.length /\
    b_law_0 [some (.val (.scr ns)), some (.val (.int (2 + (a0 : Int)))), X2, X3, X4, X5, some (.val (.lst (q.map tkP))), some (.val (.int (0 + (k : Int)))), X8]
      = some (.next [some (.val (.scr ns)), some (.val (.int (2 + (a0 : Int)))), X2, X3, X4, X5, some (.val (.lst (q'.map tkP))), some (.val (.int (0 + (k : Int)))), X8]) := by
  have t0 : 0 <= TOP := by decide
  have t3 : 3 <= TOP := by decide
  by_cases h0 : q = []
  · subst h0
    exact ⟨[], (fun t ht => by cases ht), Nat.le_refl _, by simp [b_law_0, t0]⟩
  · obtain ⟨us, p1, p2⟩ := e_l_draw ns (2 + a0 + 18 + 15 * k) [63, 4, 72] (fun b hb => by simp at hb; omega) (by decide)
    obtain ⟨v1, v2, v3, rfl⟩ : ∃ v1 v2 v3, us = [v1, v2, v3] := by
      have := p1.len
      match us, this with
      | [x1, x2, x3], _ => exact ⟨x1, x2, x3, rfl⟩
    obtain ⟨q', g', hl', e⟩ := e_l_spoilt g hl h0 v1 v2 v3
    refine ⟨q', g', hl', ?_⟩
    have ek : ((2 + a0 + 18 + 15 * k : Nat) : Int) = 2 + (a0 : Int) + 18 + 15 * (k : Int) := by omega
    rw [ek] at p2
    have he : (q.map tkP).isEmpty = false := by cases q with | nil => exact (h0 rfl).elim | cons a r => rfl
    have m0 : fMul (.int 15) (.int (k : Int)) = some (.int (15 * k)) := mul_l (by unfold LIM; omega) (by unfold LIM; omega)
    generalize hQ : q.map tkP = QS at *
    simp at p2
    simp [b_law_0, he, p2, e, m0, t0, t3]
theorem law_faults (ns : List Int) (a0 : Nat) (X2 X3 X4 X5 X8 : Option En) : ∀ (ks : List Nat) {q : List (D × D)} (g : GoodP q) (hl : q.length <= 100) (a7 : Option En), ∃ (q' : List (D × D)) (b7 : Option En), GoodP q' /\ q'.length <= 100 /\
    forD (.name 7) b_law_0 (ks.map fun (k : Nat) => D.int (0 + (k : Int))) [some (.val (.scr ns)), some (.val (.int (2 + (a0 : Int)))), X2, X3, X4, X5, some (.val (.lst (q.map tkP))), a7, X8]
      = some (.next [some (.val (.scr ns)), some (.val (.int (2 + (a0 : Int)))), X2, X3, X4, X5, some (.val (.lst (q'.map tkP))), b7, X8])
  | [], q, g, hl, a7 => ⟨q, a7, g, hl, by simp⟩
  | k :: ks, q, g, hl, a7 => by
    obtain ⟨q1, g1, hl1, p⟩ := law_in ns g hl a0 k X2 X3 X4 X5 X8
    obtain ⟨q2, b7, g2, hl2, r⟩ := law_faults ns a0 X2 X3 X4 X5 X8 ks g1 (by omega) (some (.val (.int (0 + (k : Int)))))
    refine ⟨q2, b7, g2, hl2, ?_⟩
    rw [<- r, List.map_cons, ev_forS]
    rw [show asgD (.name 7) (.int (0 + (k : Int))) [some (.val (.scr ns)), some (.val (.int (2 + (a0 : Int)))), X2, X3, X4, X5, some (.val (.lst (q.map tkP))), a7, X8] = some [some (.val (.scr ns)), some (.val (.int (2 + (a0 : Int)))), X2, X3, X4, X5, some (.val (.lst (q.map tkP))), some (.val (.int (0 + (k : Int)))), X8] from rfl, Option.bind_some, p]
    rfl
theorem law_body (ns : List Int) (k : Nat) (a2 a3 a4 a5 a6 a7 a8 : Option En) : ∃ (b2 b3 b4 b5 b6 b7 b8 : Option En),
    b_law_2 [some (.val (.scr ns)), some (.val (.int (2 + (k : Int)))), a2, a3, a4, a5, a6, a7, a8] = some (.next [some (.val (.scr ns)), some (.val (.int (2 + (k : Int)))), b2, b3, b4, b5, b6, b7, b8]) := by
  obtain ⟨us, p1, p2⟩ := e_l_draw ns (2 + k) [64, 4, 20, 20] (fun b hb => by simp at hb; omega) (by decide)
  obtain ⟨v1, v2, v3, v4, rfl⟩ : ∃ v1 v2 v3 v4, us = [v1, v2, v3, v4] := by
    have := p1.len
    match us, this with
    | [x1, x2, x3, x4], _ => exact ⟨x1, x2, x3, x4, rfl⟩
  obtain ⟨⟨r1, r1'⟩, ⟨r2, r2'⟩, ⟨r3, r3'⟩, ⟨r4, r4'⟩, _⟩ := p1
  have ek : ((2 + k : Nat) : Int) = 2 + (k : Int) := by omega
  rw [ek] at p2
  obtain ⟨q, g, hq, pc⟩ := many_comp ns v3 v4 (List.range v1.toNat) (fun j hj => by have := List.mem_range.mp hj; omega)
  have hq' : q.length <= 100 := by rw [hq, List.length_range]; omega
  obtain ⟨q2, b7, g2, hl2, pf⟩ := law_faults ns k (some (.val (.int v1))) (some (.val (.int v2))) (some (.val (.int v3))) (some (.val (.int v4))) a8 (List.range v2.toNat) g hq' a7
  obtain ⟨r, t1, t2, t3⟩ := agree g2
  have sm := same_q g2
  have ra := rngD_map 0 v1.toNat
  have rb := rngD_map 0 v2.toNat
  have tl : (rngD 0 v1.toNat).length <= TOP := by rw [ra, List.length_map, List.length_range]; exact top_small (by omega)
  have hB1 : -BIG <= v1 /\ v1 <= BIG := by unfold BIG; omega
  have hB2 : -BIG <= v2 /\ v2 <= BIG := by unfold BIG; omega
  have tq : q2.length <= TOP := top_small (by omega)
  have t4 : 4 <= TOP := by decide
  rw [<- ra] at pc
  rw [<- rb] at pf
  refine ⟨some (.val (.int v1)), some (.val (.int v2)), some (.val (.int v3)), some (.val (.int v4)), some (.val (.lst (q2.map tkP))), b7, some (.val (.lst (q2.map tkP))), ?_⟩
  simp at p2 pc pf
  generalize hQ : q.map tkP = QS at *
  generalize hQ2 : q2.map tkP = Q2 at *
  have tq2 : Q2.length <= TOP := by rw [<- hQ2]; simpa using tq
  simp [b_law_2, p2, asgD, setMany, pc, pf, t1, t2, t3, sm, tl, hB1, hB2, tq2, t4]
theorem law_loop (ns : List Int) : ∀ (ks : List Nat) (a1 a2 a3 a4 a5 a6 a7 a8 : Option En), ∃ (b1 b2 b3 b4 b5 b6 b7 b8 : Option En),
    forD (.name 1) b_law_2 (ks.map fun (k : Nat) => D.int (2 + (k : Int))) [some (.val (.scr ns)), a1, a2, a3, a4, a5, a6, a7, a8] = some (.next [some (.val (.scr ns)), b1, b2, b3, b4, b5, b6, b7, b8])
  | [], a1, a2, a3, a4, a5, a6, a7, a8 => ⟨a1, a2, a3, a4, a5, a6, a7, a8, by simp⟩
  | k :: ks, a1, a2, a3, a4, a5, a6, a7, a8 => by
    obtain ⟨b2, b3, b4, b5, b6, b7, b8, p⟩ := law_body ns k a2 a3 a4 a5 a6 a7 a8
    obtain ⟨c1, c2, c3, c4, c5, c6, c7, c8, r⟩ := law_loop ns ks (some (.val (.int (2 + (k : Int))))) b2 b3 b4 b5 b6 b7 b8
    refine ⟨c1, c2, c3, c4, c5, c6, c7, c8, ?_⟩
    rw [<- r, List.map_cons, ev_forS]
    rw [show asgD (.name 1) (.int (2 + (k : Int))) [some (.val (.scr ns)), a1, a2, a3, a4, a5, a6, a7, a8] = some [some (.val (.scr ns)), some (.val (.int (2 + (k : Int)))), a2, a3, a4, a5, a6, a7, a8] from rfl, Option.bind_some, p]
    rfl
theorem math_law (ns : List Int) (hn : ns.length <= 63) : m_law [.val (.scr ns)] = some (.val (.bl true)) := by
  have hB : (-BIG <= (2 : Int) /\ (2 : Int) <= BIG) /\ (-BIG <= min (ns.length : Int) 18 /\ min (ns.length : Int) 18 <= BIG) := by unfold BIG; omega
  obtain ⟨b1, b2, b3, b4, b5, b6, b7, b8, p⟩ := law_loop ns (List.range (min (ns.length : Int) 18 - 2).toNat) none none none none none none none none
  have r := rngD_map 2 (min (ns.length : Int) 18 - 2).toNat
  rw [<- r] at p
  have t0 : 0 <= TOP := by decide
  have t2 : 2 <= TOP := by decide
  have e := told_ver (q := []) (by decide) .nil
  have eq2 : fEq false (.tup [.str "good", .non]) (.tup [.str "good", .non]) = some (.bl true) := eq_res (w := "good") (p := .non) (neg := false) (by decide +kernel) lay_non (by decide) rfl
  simp only [m_law, mir, stE, N_law, g_law]
  try simp at p
  simp [duD, resD] at e
  simp [hB, p, e, t0, t2, eq2]
end My
namespace My
open PySem PySem.Spec L2 L3 L4 L6 Dv
open PyProof.Rows hiding St
def spOut (K : PySem.W.Frag) : Sp := fun vs H Q _ => ∃ (a : Addr) (ns : List Int), vs = [.ref a] /\ SqL K H a (ns.map V.int) /\ ns.length <= 63 /\ ∀ H', Q (.bl true) H'
theorem out_of {P : Program} {w : World} {K : PySem.W.Frag} {mg : Str -> Option Value} {base : Heap} {k : Nat} {f : Addr} {fd : FuncData} {ps : List Str} {m : List En -> Option En} (h : FnOk P w K mg base CX0 k f fd ps (pSp ⟨K, w⟩ 1 (len? 1 m)))
    (hm : ∀ ns : List Int, ns.length <= 63 -> m [.val (.scr ns)] = some (.val (.bl true))) : FnOk P w K mg base CX0 k f fd ps (spOut K) :=
  h.imp fun vs H Q E ⟨a, ns, e, hs, hl, q⟩ => ⟨H, [.val (.scr ns)], .val (.bl true), Same.refl _, rfl, by subst e; exact .cons ⟨a, rfl, hs⟩ .nil, hm ns hl, fun v F' H' _ r => by cases r; exact q H'⟩
set_option maxHeartbeats 0 in
theorem all_mk {l : PySem.W.OpenLaw} {w : World} {K : PySem.W.Frag} {h : Heap} {mg : Str -> Option Value} {fa : Addr} (X : K.In h) (G : h.Ns mainGlobals mg) (hfa : mg "law" = some (.ref fa))
    {f0 : Addr} {od0 an0 : Option Addr} {sl0 : Array (Option Value)} {oc0 kV0 dc0 pm0 cd0 ct0 : Value}
    {f1 : Addr} {od1 an1 : Option Addr} {sl1 : Array (Option Value)} {oc1 kV1 dc1 pm1 cd1 ct1 : Value}
    {f2 : Addr} {od2 an2 : Option Addr} {sl2 : Array (Option Value)} {oc2 kV2 dc2 pm2 cd2 ct2 : Value}
    {f3 : Addr} {od3 an3 : Option Addr} {sl3 : Array (Option Value)} {oc3 kV3 dc3 pm3 cd3 ct3 : Value}
    {f4 : Addr} {od4 an4 : Option Addr} {sl4 : Array (Option Value)} {oc4 kV4 dc4 pm4 cd4 ct4 : Value}
    {f5 : Addr} {od5 an5 : Option Addr} {sl5 : Array (Option Value)} {oc5 kV5 dc5 pm5 cd5 ct5 : Value}
    {f6 : Addr} {od6 an6 : Option Addr} {sl6 : Array (Option Value)} {oc6 kV6 dc6 pm6 cd6 ct6 : Value}
    {f7 : Addr} {od7 an7 : Option Addr} {sl7 : Array (Option Value)} {oc7 kV7 dc7 pm7 cd7 ct7 : Value}
    {f8 : Addr} {od8 an8 : Option Addr} {sl8 : Array (Option Value)} {oc8 kV8 dc8 pm8 cd8 ct8 : Value}
    {f9 : Addr} {od9 an9 : Option Addr} {sl9 : Array (Option Value)} {oc9 kV9 dc9 pm9 cd9 ct9 : Value}
    {f10 : Addr} {od10 an10 : Option Addr} {sl10 : Array (Option Value)} {oc10 kV10 dc10 pm10 cd10 ct10 : Value}
    {f11 : Addr} {od11 an11 : Option Addr} {sl11 : Array (Option Value)} {oc11 kV11 dc11 pm11 cd11 ct11 : Value}
    {f12 : Addr} {od12 an12 : Option Addr} {sl12 : Array (Option Value)} {oc12 kV12 dc12 pm12 cd12 ct12 : Value}
    {f13 : Addr} {od13 an13 : Option Addr} {sl13 : Array (Option Value)} {oc13 kV13 dc13 pm13 cd13 ct13 : Value}
    {f14 : Addr} {od14 an14 : Option Addr} {sl14 : Array (Option Value)} {oc14 kV14 dc14 pm14 cd14 ct14 : Value}
    {C_Doubled C_TooMany C_NoName C_NoNumber C_HallError : Addr}
    {fI_Doubled : Addr} {odI_Doubled anI_Doubled : Option Addr} {slI_Doubled : Array (Option Value)} {kVI_Doubled dcI_Doubled pmI_Doubled cdI_Doubled ctI_Doubled : Value}
    {dd_Doubled : Option Addr} {cd_Doubled : ClassData} {k0_Doubled k1_Doubled k2_Doubled k3_Doubled k5_Doubled : Option Value} {bm_Doubled : List Value}
    {dd_NoName : Option Addr} {cd_NoName : ClassData} {k0_NoName k1_NoName k2_NoName k3_NoName k5_NoName : Option Value} {bm_NoName : List Value}
    {dd_NoNumber : Option Addr} {cd_NoNumber : ClassData} {k0_NoNumber k1_NoNumber k2_NoNumber k3_NoNumber k5_NoNumber : Option Value} {bm_NoNumber : List Value}
    {dd_TooMany : Option Addr} {cd_TooMany : ClassData} {k0_TooMany k1_TooMany k2_TooMany k3_TooMany k5_TooMany : Option Value} {bm_TooMany : List Value}
    {t_FIGURES : Tok}
    {t_LETTERS : Tok}
    {t_MOST_LEFT : Tok}
    {t_MOST_SIGNS : Tok}
    {t_MOST_TICKETS : Tok}
    (a0 : PySem.W.nsIn K mainGlobals "is_whole" = some (some (.ref f0)))
    (l0 : K.lookup f0 = some ⟨oc0, od0, .func (PySem.W.fnOf "is_whole" "is_whole" (defArgs s_is_whole) (defBody s_is_whole) (defScope s_is_whole) .none kV0 dc0 pm0 an0 cd0 ct0), sl0⟩)
    (c0 : PySem.W.codeIn K cd0 "is_whole" = true)
    (k0 : PySem.W.keepIn K (.ref f0) = true)
    (a1 : PySem.W.nsIn K mainGlobals "is_number" = some (some (.ref f1)))
    (l1 : K.lookup f1 = some ⟨oc1, od1, .func (PySem.W.fnOf "is_number" "is_number" (defArgs s_is_number) (defBody s_is_number) (defScope s_is_number) .none kV1 dc1 pm1 an1 cd1 ct1), sl1⟩)
    (c1 : PySem.W.codeIn K cd1 "is_number" = true)
    (k1 : PySem.W.keepIn K (.ref f1) = true)
    (a2 : PySem.W.nsIn K mainGlobals "is_name" = some (some (.ref f2)))
    (l2 : K.lookup f2 = some ⟨oc2, od2, .func (PySem.W.fnOf "is_name" "is_name" (defArgs s_is_name) (defBody s_is_name) (defScope s_is_name) .none kV2 dc2 pm2 an2 cd2 ct2), sl2⟩)
    (c2 : PySem.W.codeIn K cd2 "is_name" = true)
    (k2 : PySem.W.keepIn K (.ref f2) = true)
    (a3 : PySem.W.nsIn K mainGlobals "check_queue" = some (some (.ref f3)))
    (l3 : K.lookup f3 = some ⟨oc3, od3, .func (PySem.W.fnOf "check_queue" "check_queue" (defArgs s_check_queue) (defBody s_check_queue) (defScope s_check_queue) .none kV3 dc3 pm3 an3 cd3 ct3), sl3⟩)
    (c3 : PySem.W.codeIn K cd3 "check_queue" = true)
    (k3 : PySem.W.keepIn K (.ref f3) = true)
    (a4 : PySem.W.nsIn K mainGlobals "_law_cell" = some (some (.ref f4)))
    (l4 : K.lookup f4 = some ⟨oc4, od4, .func (PySem.W.fnOf "_law_cell" "_law_cell" (defArgs s_l_cell) (defBody s_l_cell) (defScope s_l_cell) .none kV4 dc4 pm4 an4 cd4 ct4), sl4⟩)
    (c4 : PySem.W.codeIn K cd4 "_law_cell" = true)
    (k4 : PySem.W.keepIn K (.ref f4) = true)
    (a5 : PySem.W.nsIn K mainGlobals "_law_stir" = some (some (.ref f5)))
    (l5 : K.lookup f5 = some ⟨oc5, od5, .func (PySem.W.fnOf "_law_stir" "_law_stir" (defArgs s_l_stir) (defBody s_l_stir) (defScope s_l_stir) .none kV5 dc5 pm5 an5 cd5 ct5), sl5⟩)
    (c5 : PySem.W.codeIn K cd5 "_law_stir" = true)
    (k5 : PySem.W.keepIn K (.ref f5) = true)
    (a6 : PySem.W.nsIn K mainGlobals "_law_draw" = some (some (.ref f6)))
    (l6 : K.lookup f6 = some ⟨oc6, od6, .func (PySem.W.fnOf "_law_draw" "_law_draw" (defArgs s_l_draw) (defBody s_l_draw) (defScope s_l_draw) .none kV6 dc6 pm6 an6 cd6 ct6), sl6⟩)
    (c6 : PySem.W.codeIn K cd6 "_law_draw" = true)
    (k6 : PySem.W.keepIn K (.ref f6) = true)
    (a7 : PySem.W.nsIn K mainGlobals "_law_name" = some (some (.ref f7)))
    (l7 : K.lookup f7 = some ⟨oc7, od7, .func (PySem.W.fnOf "_law_name" "_law_name" (defArgs s_l_name) (defBody s_l_name) (defScope s_l_name) .none kV7 dc7 pm7 an7 cd7 ct7), sl7⟩)
    (c7 : PySem.W.codeIn K cd7 "_law_name" = true)
    (k7 : PySem.W.keepIn K (.ref f7) = true)
    (a8 : PySem.W.nsIn K mainGlobals "_law_many_named" = some (some (.ref f8)))
    (l8 : K.lookup f8 = some ⟨oc8, od8, .func (PySem.W.fnOf "_law_many_named" "_law_many_named" (defArgs s_l_many_named) (defBody s_l_many_named) (defScope s_l_many_named) .none kV8 dc8 pm8 an8 cd8 ct8), sl8⟩)
    (c8 : PySem.W.codeIn K cd8 "_law_many_named" = true)
    (k8 : PySem.W.keepIn K (.ref f8) = true)
    (a9 : PySem.W.nsIn K mainGlobals "_law_spoilt" = some (some (.ref f9)))
    (l9 : K.lookup f9 = some ⟨oc9, od9, .func (PySem.W.fnOf "_law_spoilt" "_law_spoilt" (defArgs s_l_spoilt) (defBody s_l_spoilt) (defScope s_l_spoilt) .none kV9 dc9 pm9 an9 cd9 ct9), sl9⟩)
    (c9 : PySem.W.codeIn K cd9 "_law_spoilt" = true)
    (k9 : PySem.W.keepIn K (.ref f9) = true)
    (a10 : PySem.W.nsIn K mainGlobals "_law_is_name" = some (some (.ref f10)))
    (l10 : K.lookup f10 = some ⟨oc10, od10, .func (PySem.W.fnOf "_law_is_name" "_law_is_name" (defArgs s_l_is_name) (defBody s_l_is_name) (defScope s_l_is_name) .none kV10 dc10 pm10 an10 cd10 ct10), sl10⟩)
    (c10 : PySem.W.codeIn K cd10 "_law_is_name" = true)
    (k10 : PySem.W.keepIn K (.ref f10) = true)
    (a11 : PySem.W.nsIn K mainGlobals "_law_due" = some (some (.ref f11)))
    (l11 : K.lookup f11 = some ⟨oc11, od11, .func (PySem.W.fnOf "_law_due" "_law_due" (defArgs s_l_due) (defBody s_l_due) (defScope s_l_due) .none kV11 dc11 pm11 an11 cd11 ct11), sl11⟩)
    (c11 : PySem.W.codeIn K cd11 "_law_due" = true)
    (k11 : PySem.W.keepIn K (.ref f11) = true)
    (a12 : PySem.W.nsIn K mainGlobals "_law_kind" = some (some (.ref f12)))
    (l12 : K.lookup f12 = some ⟨oc12, od12, .func (PySem.W.fnOf "_law_kind" "_law_kind" (defArgs s_l_kind) (defBody s_l_kind) (defScope s_l_kind) .none kV12 dc12 pm12 an12 cd12 ct12), sl12⟩)
    (c12 : PySem.W.codeIn K cd12 "_law_kind" = true)
    (k12 : PySem.W.keepIn K (.ref f12) = true)
    (a13 : PySem.W.nsIn K mainGlobals "_law_told" = some (some (.ref f13)))
    (l13 : K.lookup f13 = some ⟨oc13, od13, .func (PySem.W.fnOf "_law_told" "_law_told" (defArgs s_l_told) (defBody s_l_told) (defScope s_l_told) .none kV13 dc13 pm13 an13 cd13 ct13), sl13⟩)
    (c13 : PySem.W.codeIn K cd13 "_law_told" = true)
    (k13 : PySem.W.keepIn K (.ref f13) = true)
    (a14 : PySem.W.nsIn K mainGlobals "law" = some (some (.ref f14)))
    (l14 : K.lookup f14 = some ⟨oc14, od14, .func (PySem.W.fnOf "law" "law" (defArgs s_law) (defBody s_law) (defScope s_law) .none kV14 dc14 pm14 an14 cd14 ct14), sl14⟩)
    (c14 : PySem.W.codeIn K cd14 "law" = true)
    (k14 : PySem.W.keepIn K (.ref f14) = true)
    (tt_Doubled : PySem.W.nsIn K mainGlobals "Doubled" = some (some (.ref C_Doubled)))
    (tt_TooMany : PySem.W.nsIn K mainGlobals "TooMany" = some (some (.ref C_TooMany)))
    (tt_NoName : PySem.W.nsIn K mainGlobals "NoName" = some (some (.ref C_NoName)))
    (tt_NoNumber : PySem.W.nsIn K mainGlobals "NoNumber" = some (some (.ref C_NoNumber)))
    (tt_HallError : PySem.W.nsIn K mainGlobals "HallError" = some (some (.ref C_HallError)))
    (xl_Doubled : K.lookup C_Doubled = some ⟨.type "type", dd_Doubled, .cls cd_Doubled, #[k0_Doubled, k1_Doubled, k2_Doubled, k3_Doubled, some (.builtin "ValueError.__new__"), k5_Doubled]⟩)
    (xmr_Doubled : cd_Doubled.mro = .ref C_Doubled :: bm_Doubled)
    (xdl_Doubled : cd_Doubled.hasDel = false)
    (xtl_Doubled : PySem.W.tailIn K vB bm_Doubled = true)
    (xok_Doubled : PySem.W.nsOkIn K cd_Doubled.ns = true)
    (xin_Doubled : PySem.W.nsIn K cd_Doubled.ns "__init__" = some (some (.ref fI_Doubled)))
    (xkp_Doubled : PySem.W.keepIn K (.ref C_Doubled) = true)
    (xli_Doubled : K.lookup fI_Doubled = some ⟨.type "function", odI_Doubled, .func (PySem.W.fnOf "__init__" "Doubled.__init__" (defArgs s_Doubled_init) (defBody s_Doubled_init) (defScope s_Doubled_init) .none kVI_Doubled dcI_Doubled pmI_Doubled anI_Doubled cdI_Doubled ctI_Doubled), slI_Doubled⟩)
    (xci_Doubled : PySem.W.codeIn K cdI_Doubled "Doubled.__init__" = true)
    (xki_Doubled : PySem.W.keepIn K (.ref fI_Doubled) = true)
    (sa_Doubled : PySem.W.findIn K (.ref C_Doubled) "__setattr__" = some (some (.builtin "object.__setattr__")))
    (xtk_Doubled : PySem.W.takerIn K C_Doubled "name" = some none)
    (xhd_Doubled : PySem.W.hasDictIn K C_Doubled = true)
    (be_Doubled : PySem.W.subIn K (.ref C_Doubled) (.type "BaseException") = some true)
    (sb_Doubled_HallError : PySem.W.subIn K (.ref C_Doubled) (.ref C_HallError) = some true)
    (ga_Doubled : PySem.W.findIn K (.ref C_Doubled) "__getattribute__" = some (some (.builtin "BaseException.__getattribute__")))
    (gt_Doubled : PySem.W.findIn K (.ref C_Doubled) "__getattr__" = some none)
    (na_Doubled : PySem.W.findIn K (.ref C_Doubled) "name" = some none)
    (xrd : PySem.W.readsIn K C_HallError (.type "type") = true)
    (xfc : PySem.W.findCls K (.ref C_HallError) (.type "type") "__init__" = some (.val (.builtin "ValueError.__init__")))
    (xsp : PySem.W.specialIn K (.ref C_HallError) "__getattribute__" = some (some (.builtin "type.__getattribute__")))
    (cl_Doubled : PySem.W.isClsIn K C_Doubled = true)
    (cc_Doubled : PySem.W.findIn K (.ref C_Doubled) "__class__" = some (some (.builtin "object.__class__")))
    (xcg : PySem.W.specialIn K (.builtin "object.__class__") "__get__" = some (some (.builtin "getset_descriptor.__get__")))
    (xct : PySem.W.takesIn K (.builtin "object.__class__") = some true)
    (mo_Doubled : PySem.W.mroIn K C_Doubled (.type "object") = some true)
    (be_NoName : PySem.W.subIn K (.ref C_NoName) (.type "BaseException") = some true)
    (cl_NoName : PySem.W.isClsIn K C_NoName = true)
    (ga_NoName : PySem.W.findIn K (.ref C_NoName) "__getattribute__" = some (some (.builtin "BaseException.__getattribute__")))
    (gt_NoName : PySem.W.findIn K (.ref C_NoName) "__getattr__" = some none)
    (cc_NoName : PySem.W.findIn K (.ref C_NoName) "__class__" = some (some (.builtin "object.__class__")))
    (mo_NoName : PySem.W.mroIn K C_NoName (.type "object") = some true)
    (be_NoNumber : PySem.W.subIn K (.ref C_NoNumber) (.type "BaseException") = some true)
    (cl_NoNumber : PySem.W.isClsIn K C_NoNumber = true)
    (ga_NoNumber : PySem.W.findIn K (.ref C_NoNumber) "__getattribute__" = some (some (.builtin "BaseException.__getattribute__")))
    (gt_NoNumber : PySem.W.findIn K (.ref C_NoNumber) "__getattr__" = some none)
    (cc_NoNumber : PySem.W.findIn K (.ref C_NoNumber) "__class__" = some (some (.builtin "object.__class__")))
    (mo_NoNumber : PySem.W.mroIn K C_NoNumber (.type "object") = some true)
    (be_TooMany : PySem.W.subIn K (.ref C_TooMany) (.type "BaseException") = some true)
    (cl_TooMany : PySem.W.isClsIn K C_TooMany = true)
    (ga_TooMany : PySem.W.findIn K (.ref C_TooMany) "__getattribute__" = some (some (.builtin "BaseException.__getattribute__")))
    (gt_TooMany : PySem.W.findIn K (.ref C_TooMany) "__getattr__" = some none)
    (cc_TooMany : PySem.W.findIn K (.ref C_TooMany) "__class__" = some (some (.builtin "object.__class__")))
    (mo_TooMany : PySem.W.mroIn K C_TooMany (.type "object") = some true)
    (sb_NoName_Doubled : PySem.W.subIn K (.ref C_NoName) (.ref C_Doubled) = some false)
    (nt_Doubled : PySem.W.instIn K (.ref C_Doubled) (.type "tuple") = some false)
    (sb_NoNumber_Doubled : PySem.W.subIn K (.ref C_NoNumber) (.ref C_Doubled) = some false)
    (sb_TooMany_Doubled : PySem.W.subIn K (.ref C_TooMany) (.ref C_Doubled) = some false)
    (su_Doubled_ValueError : PySem.W.subIn K (.ref C_Doubled) (.type "ValueError") = some true)
    (su_NoName_ValueError : PySem.W.subIn K (.ref C_NoName) (.type "ValueError") = some true)
    (su_NoNumber_ValueError : PySem.W.subIn K (.ref C_NoNumber) (.type "ValueError") = some true)
    (su_TooMany_ValueError : PySem.W.subIn K (.ref C_TooMany) (.type "ValueError") = some true)
    (xl_NoName : K.lookup C_NoName = some ⟨.type "type", dd_NoName, .cls cd_NoName, #[k0_NoName, k1_NoName, k2_NoName, k3_NoName, some (.builtin "ValueError.__new__"), k5_NoName]⟩)
    (xmr_NoName : cd_NoName.mro = .ref C_NoName :: bm_NoName)
    (xdl_NoName : cd_NoName.hasDel = false)
    (xtl_NoName : PySem.W.tailIn K vB bm_NoName = true)
    (xok_NoName : PySem.W.nsOkIn K cd_NoName.ns = true)
    (xin_NoName : PySem.W.nsIn K cd_NoName.ns "__init__" = some none)
    (xkp_NoName : PySem.W.keepIn K (.ref C_NoName) = true)
    (xl_NoNumber : K.lookup C_NoNumber = some ⟨.type "type", dd_NoNumber, .cls cd_NoNumber, #[k0_NoNumber, k1_NoNumber, k2_NoNumber, k3_NoNumber, some (.builtin "ValueError.__new__"), k5_NoNumber]⟩)
    (xmr_NoNumber : cd_NoNumber.mro = .ref C_NoNumber :: bm_NoNumber)
    (xdl_NoNumber : cd_NoNumber.hasDel = false)
    (xtl_NoNumber : PySem.W.tailIn K vB bm_NoNumber = true)
    (xok_NoNumber : PySem.W.nsOkIn K cd_NoNumber.ns = true)
    (xin_NoNumber : PySem.W.nsIn K cd_NoNumber.ns "__init__" = some none)
    (xkp_NoNumber : PySem.W.keepIn K (.ref C_NoNumber) = true)
    (xl_TooMany : K.lookup C_TooMany = some ⟨.type "type", dd_TooMany, .cls cd_TooMany, #[k0_TooMany, k1_TooMany, k2_TooMany, k3_TooMany, some (.builtin "ValueError.__new__"), k5_TooMany]⟩)
    (xmr_TooMany : cd_TooMany.mro = .ref C_TooMany :: bm_TooMany)
    (xdl_TooMany : cd_TooMany.hasDel = false)
    (xtl_TooMany : PySem.W.tailIn K vB bm_TooMany = true)
    (xok_TooMany : PySem.W.nsOkIn K cd_TooMany.ns = true)
    (xin_TooMany : PySem.W.nsIn K cd_TooMany.ns "__init__" = some none)
    (xkp_TooMany : PySem.W.keepIn K (.ref C_TooMany) = true)
    (sb_Doubled_Doubled : PySem.W.subIn K (.ref C_Doubled) (.ref C_Doubled) = some true)
    (sb_NoName_HallError : PySem.W.subIn K (.ref C_NoName) (.ref C_HallError) = some true)
    (nt_HallError : PySem.W.instIn K (.ref C_HallError) (.type "tuple") = some false)
    (cl_HallError : PySem.W.isClsIn K C_HallError = true)
    (be_HallError : PySem.W.subIn K (.ref C_HallError) (.type "BaseException") = some true)
    (sb_NoNumber_HallError : PySem.W.subIn K (.ref C_NoNumber) (.ref C_HallError) = some true)
    (sb_TooMany_HallError : PySem.W.subIn K (.ref C_TooMany) (.ref C_HallError) = some true)
    (ty_NoName : PySem.W.typeIn K (.ref C_NoName) = some (.type "type"))
    (sb_Doubled_NoName : PySem.W.subIn K (.ref C_Doubled) (.ref C_NoName) = some false)
    (ty_NoNumber : PySem.W.typeIn K (.ref C_NoNumber) = some (.type "type"))
    (sb_Doubled_NoNumber : PySem.W.subIn K (.ref C_Doubled) (.ref C_NoNumber) = some false)
    (ty_TooMany : PySem.W.typeIn K (.ref C_TooMany) = some (.type "type"))
    (sb_Doubled_TooMany : PySem.W.subIn K (.ref C_Doubled) (.ref C_TooMany) = some false)
    (sb_NoName_NoName : PySem.W.subIn K (.ref C_NoName) (.ref C_NoName) = some true)
    (ty_Doubled : PySem.W.typeIn K (.ref C_Doubled) = some (.type "type"))
    (sb_NoName_NoNumber : PySem.W.subIn K (.ref C_NoName) (.ref C_NoNumber) = some false)
    (sb_NoName_TooMany : PySem.W.subIn K (.ref C_NoName) (.ref C_TooMany) = some false)
    (sb_NoNumber_NoNumber : PySem.W.subIn K (.ref C_NoNumber) (.ref C_NoNumber) = some true)
    (sb_NoNumber_NoName : PySem.W.subIn K (.ref C_NoNumber) (.ref C_NoName) = some false)
    (sb_NoNumber_TooMany : PySem.W.subIn K (.ref C_NoNumber) (.ref C_TooMany) = some false)
    (sb_TooMany_TooMany : PySem.W.subIn K (.ref C_TooMany) (.ref C_TooMany) = some true)
    (sb_TooMany_NoName : PySem.W.subIn K (.ref C_TooMany) (.ref C_NoName) = some false)
    (sb_TooMany_NoNumber : PySem.W.subIn K (.ref C_TooMany) (.ref C_NoNumber) = some false)
    (b_ValueError : PySem.W.nsIn K mainGlobals "ValueError" = some none)
    (b_all : PySem.W.nsIn K mainGlobals "all" = some none)
    (b_bool : PySem.W.nsIn K mainGlobals "bool" = some none)
    (b_enumerate : PySem.W.nsIn K mainGlobals "enumerate" = some none)
    (b_int : PySem.W.nsIn K mainGlobals "int" = some none)
    (b_isinstance : PySem.W.nsIn K mainGlobals "isinstance" = some none)
    (b_len : PySem.W.nsIn K mainGlobals "len" = some none)
    (b_list : PySem.W.nsIn K mainGlobals "list" = some none)
    (b_min : PySem.W.nsIn K mainGlobals "min" = some none)
    (b_range : PySem.W.nsIn K mainGlobals "range" = some none)
    (b_str : PySem.W.nsIn K mainGlobals "str" = some none)
    (c_FIGURES : PySem.W.nsIn K mainGlobals "FIGURES" = some (some (.str "0123456789" t_FIGURES)))
    (c_LETTERS : PySem.W.nsIn K mainGlobals "LETTERS" = some (some (.str "abcdefghijklmnopqrstuvwxyz" t_LETTERS)))
    (c_MOST_LEFT : PySem.W.nsIn K mainGlobals "MOST_LEFT" = some (some (.int 20 t_MOST_LEFT)))
    (c_MOST_SIGNS : PySem.W.nsIn K mainGlobals "MOST_SIGNS" = some (some (.int 8 t_MOST_SIGNS)))
    (c_MOST_TICKETS : PySem.W.nsIn K mainGlobals "MOST_TICKETS" = some (some (.int 60 t_MOST_TICKETS)))
    : ∃ fd : FuncData, (∀ (s : Shared) (v : Value), BindsTo s fd ⟨[v], []⟩ [("_law_script", v)]) /\ ∀ base : Heap, K.In base -> base.Ns mainGlobals mg -> FnOk l.prog w K mg base CX0 5 fa fd ["_law_script"] (spOut K) := by
  have e := hfa.symm.trans (PySem.W.mg_of X G a14)
  cases e
  have T : Txt K mg 0 := ⟨PySem.W.mg_none_of X G b_ValueError, PySem.W.mg_none_of X G b_all, PySem.W.mg_none_of X G b_bool, PySem.W.mg_none_of X G b_enumerate, PySem.W.mg_none_of X G b_int, PySem.W.mg_none_of X G b_isinstance, PySem.W.mg_none_of X G b_len, PySem.W.mg_none_of X G b_list, PySem.W.mg_none_of X G b_min, PySem.W.mg_none_of X G b_range, PySem.W.mg_none_of X G b_str, ⟨_, PySem.W.mg_of X G c_FIGURES⟩, ⟨_, PySem.W.mg_of X G c_LETTERS⟩, ⟨_, PySem.W.mg_of X G c_MOST_LEFT⟩, ⟨_, PySem.W.mg_of X G c_MOST_SIGNS⟩, ⟨_, PySem.W.mg_of X G c_MOST_TICKETS⟩⟩
  have F0 := fun_mk (st := s_is_whole) l0 c0 k0
  have bb0 := F0.binds (ps := ["thing"]) fun _ _ _ _ _ _ us hl => match us, hl with | [_], _ => rfl
  have F1 := fun_mk (st := s_is_number) l1 c1 k1
  have bb1 := F1.binds (ps := ["thing", "low", "high"]) fun _ _ _ _ _ _ us hl => match us, hl with | [_, _, _], _ => rfl
  have F2 := fun_mk (st := s_is_name) l2 c2 k2
  have bb2 := F2.binds (ps := ["thing"]) fun _ _ _ _ _ _ us hl => match us, hl with | [_], _ => rfl
  have F3 := fun_mk (st := s_check_queue) l3 c3 k3
  have bb3 := F3.binds (ps := ["queue"]) fun _ _ _ _ _ _ us hl => match us, hl with | [_], _ => rfl
  have F4 := fun_mk (st := s_l_cell) l4 c4 k4
  have bb4 := F4.binds (ps := ["_law_script", "_law_k"]) fun _ _ _ _ _ _ us hl => match us, hl with | [_, _], _ => rfl
  have F5 := fun_mk (st := s_l_stir) l5 c5 k5
  have bb5 := F5.binds (ps := ["_law_cell_here", "_law_k"]) fun _ _ _ _ _ _ us hl => match us, hl with | [_, _], _ => rfl
  have F6 := fun_mk (st := s_l_draw) l6 c6 k6
  have bb6 := F6.binds (ps := ["_law_script", "_law_at", "_law_bases"]) fun _ _ _ _ _ _ us hl => match us, hl with | [_, _, _], _ => rfl
  have F7 := fun_mk (st := s_l_name) l7 c7 k7
  have bb7 := F7.binds (ps := ["_law_cell_here", "_law_k"]) fun _ _ _ _ _ _ us hl => match us, hl with | [_, _], _ => rfl
  have F8 := fun_mk (st := s_l_many_named) l8 c8 k8
  have bb8 := F8.binds (ps := ["_law_cell_here", "_law_k"]) fun _ _ _ _ _ _ us hl => match us, hl with | [_, _], _ => rfl
  have F9 := fun_mk (st := s_l_spoilt) l9 c9 k9
  have bb9 := F9.binds (ps := ["_law_queue", "_law_drawn"]) fun _ _ _ _ _ _ us hl => match us, hl with | [_, _], _ => rfl
  have F10 := fun_mk (st := s_l_is_name) l10 c10 k10
  have bb10 := F10.binds (ps := ["_law_thing"]) fun _ _ _ _ _ _ us hl => match us, hl with | [_], _ => rfl
  have F11 := fun_mk (st := s_l_due) l11 c11 k11
  have bb11 := F11.binds (ps := ["_law_queue"]) fun _ _ _ _ _ _ us hl => match us, hl with | [_], _ => rfl
  have F12 := fun_mk (st := s_l_kind) l12 c12 k12
  have bb12 := F12.binds (ps := ["_law_e"]) fun _ _ _ _ _ _ us hl => match us, hl with | [_], _ => rfl
  have F13 := fun_mk (st := s_l_told) l13 c13 k13
  have bb13 := F13.binds (ps := ["_law_queue"]) fun _ _ _ _ _ _ us hl => match us, hl with | [_], _ => rfl
  have F14 := fun_mk (st := s_law) l14 c14 k14
  obtain ⟨ca, e_Doubled, e_TooMany, e_NoName, e_NoNumber, e_HallError⟩ : ∃ ca : Str -> Addr, ca "Doubled" = C_Doubled /\ ca "TooMany" = C_TooMany /\ ca "NoName" = C_NoName /\ ca "NoNumber" = C_NoNumber /\ ca "HallError" = C_HallError := ⟨fun s => if s = "Doubled" then C_Doubled else if s = "TooMany" then C_TooMany else if s = "NoName" then C_NoName else if s = "NoNumber" then C_NoNumber else if s = "HallError" then C_HallError else 0, if_pos rfl, (if_neg (by decide +kernel)).trans <| if_pos rfl, (if_neg (by decide +kernel)).trans <| (if_neg (by decide +kernel)).trans <| if_pos rfl, (if_neg (by decide +kernel)).trans <| (if_neg (by decide +kernel)).trans <| (if_neg (by decide +kernel)).trans <| if_pos rfl, (if_neg (by decide +kernel)).trans <| (if_neg (by decide +kernel)).trans <| (if_neg (by decide +kernel)).trans <| (if_neg (by decide +kernel)).trans <| if_pos rfl⟩
  subst e_Doubled
  subst e_TooMany
  subst e_NoName
  subst e_NoNumber
  subst e_HallError
  have FI_Doubled := fun_mk (st := s_Doubled_init) xli_Doubled xci_Doubled xki_Doubled
  have bbI_Doubled := FI_Doubled.binds (ps := ["self", "name"]) fun _ _ _ _ _ _ us hl => match us, hl with | [_, _], _ => rfl
  have xc_Doubled : XC K (ca "Doubled") (ca "HallError") fI_Doubled "name" := ⟨⟨dd_Doubled, cd_Doubled, k0_Doubled, k1_Doubled, k2_Doubled, k3_Doubled, k5_Doubled, bm_Doubled, xl_Doubled, xmr_Doubled, xdl_Doubled, xtl_Doubled, xok_Doubled, xin_Doubled⟩, ⟨_, xli_Doubled, rfl⟩, xkp_Doubled, sa_Doubled, xtk_Doubled, xhd_Doubled, be_Doubled, sb_Doubled_HallError, ga_Doubled, gt_Doubled, na_Doubled, xrd, xfc, xsp⟩
  refine ⟨PySem.W.fnOf "law" "law" (defArgs s_law) (defBody s_law) (defScope s_law) .none kV14 dc14 pm14 an14 cd14 ct14, fun s v => .of_eq rfl, fun base _ _ => ?_⟩
  have U : Exs l.prog w K mg base ca := ⟨⟨fI_Doubled, xc_Doubled, _, _, ok_Doubled_init (P := l.prog) (w := w) (base := base) FI_Doubled xc_Doubled (PySem.W.mg_of X G tt_HallError), bbI_Doubled⟩, ⟨be_Doubled, cl_Doubled, ga_Doubled, gt_Doubled, cc_Doubled, xcg, xct, mo_Doubled⟩, ⟨be_NoName, cl_NoName, ga_NoName, gt_NoName, cc_NoName, xcg, xct, mo_NoName⟩, ⟨be_NoNumber, cl_NoNumber, ga_NoNumber, gt_NoNumber, cc_NoNumber, xcg, xct, mo_NoNumber⟩, ⟨be_TooMany, cl_TooMany, ga_TooMany, gt_TooMany, cc_TooMany, xcg, xct, mo_TooMany⟩, PySem.W.mg_of X G tt_Doubled, PySem.W.mg_of X G tt_HallError, PySem.W.mg_of X G tt_NoName, PySem.W.mg_of X G tt_NoNumber, PySem.W.mg_of X G tt_TooMany, ⟨sb_NoName_Doubled, nt_Doubled, cl_Doubled, be_Doubled⟩, ⟨sb_NoNumber_Doubled, nt_Doubled, cl_Doubled, be_Doubled⟩, ⟨sb_TooMany_Doubled, nt_Doubled, cl_Doubled, be_Doubled⟩, kit_type (by decide +kernel) su_Doubled_ValueError, kit_type (by decide +kernel) su_NoName_ValueError, kit_type (by decide +kernel) su_NoNumber_ValueError, kit_type (by decide +kernel) su_TooMany_ValueError, ⟨⟨dd_NoName, cd_NoName, k0_NoName, k1_NoName, k2_NoName, k3_NoName, k5_NoName, bm_NoName, xl_NoName, xmr_NoName, xdl_NoName, xtl_NoName, xok_NoName, xin_NoName⟩, xkp_NoName⟩, ⟨⟨dd_NoNumber, cd_NoNumber, k0_NoNumber, k1_NoNumber, k2_NoNumber, k3_NoNumber, k5_NoNumber, bm_NoNumber, xl_NoNumber, xmr_NoNumber, xdl_NoNumber, xtl_NoNumber, xok_NoNumber, xin_NoNumber⟩, xkp_NoNumber⟩, ⟨⟨dd_TooMany, cd_TooMany, k0_TooMany, k1_TooMany, k2_TooMany, k3_TooMany, k5_TooMany, bm_TooMany, xl_TooMany, xmr_TooMany, xdl_TooMany, xtl_TooMany, xok_TooMany, xin_TooMany⟩, xkp_TooMany⟩, ⟨sb_Doubled_Doubled, nt_Doubled, cl_Doubled, be_Doubled⟩, ⟨sb_NoName_HallError, nt_HallError, cl_HallError, be_HallError⟩, ⟨sb_NoNumber_HallError, nt_HallError, cl_HallError, be_HallError⟩, ⟨sb_TooMany_HallError, nt_HallError, cl_HallError, be_HallError⟩, kit_false sb_Doubled_Doubled cl_NoName ty_NoName sb_Doubled_NoName, kit_false sb_Doubled_Doubled cl_NoNumber ty_NoNumber sb_Doubled_NoNumber, kit_false sb_Doubled_Doubled cl_TooMany ty_TooMany sb_Doubled_TooMany, kit_false sb_NoName_NoName cl_Doubled ty_Doubled sb_NoName_Doubled, kit_false sb_NoName_NoName cl_NoNumber ty_NoNumber sb_NoName_NoNumber, kit_false sb_NoName_NoName cl_TooMany ty_TooMany sb_NoName_TooMany, kit_false sb_NoNumber_NoNumber cl_Doubled ty_Doubled sb_NoNumber_Doubled, kit_false sb_NoNumber_NoNumber cl_NoName ty_NoName sb_NoNumber_NoName, kit_false sb_NoNumber_NoNumber cl_TooMany ty_TooMany sb_NoNumber_TooMany, kit_false sb_TooMany_TooMany cl_Doubled ty_Doubled sb_TooMany_Doubled, kit_false sb_TooMany_TooMany cl_NoName ty_NoName sb_TooMany_NoName, kit_false sb_TooMany_TooMany cl_NoNumber ty_NoNumber sb_TooMany_NoNumber, kit_same, kit_same, kit_same, kit_same⟩
  have h_is_whole : Fx l.prog w K mg base "is_whole" 1 1 m_is_whole := ⟨f0, _, _, ok_is_whole (P := l.prog) (w := w) (base := base) T F0, PySem.W.mg_of X G a0, k0, bb0⟩
  have h_is_number : Fx l.prog w K mg base "is_number" 2 3 m_is_number := ⟨f1, _, _, ok_is_number (P := l.prog) (w := w) (base := base) T F1 h_is_whole, PySem.W.mg_of X G a1, k1, bb1⟩
  have h_is_name : Fx l.prog w K mg base "is_name" 1 1 m_is_name := ⟨f2, _, _, ok_is_name (P := l.prog) (w := w) (base := base) T F2, PySem.W.mg_of X G a2, k2, bb2⟩
  have hx_check_queue : Ry l.prog w K mg base ca "name" "check_queue" 3 1 mx_check_queue := ⟨f3, _, _, okx_check_queue (P := l.prog) (w := w) (base := base) T F3 U h_is_name h_is_number, PySem.W.mg_of X G a3, k3, bb3⟩
  have h_check_queue : Fx l.prog w K mg base "check_queue" 3 1 m_check_queue := ⟨f3, _, _, ok_check_queue (P := l.prog) (w := w) (base := base) T F3 h_is_number h_is_name, PySem.W.mg_of X G a3, k3, bb3⟩
  have h_l_cell : Fx l.prog w K mg base "_law_cell" 1 2 m_l_cell := ⟨f4, _, _, ok_l_cell (P := l.prog) (w := w) (base := base) T F4, PySem.W.mg_of X G a4, k4, bb4⟩
  have h_l_stir : Fx l.prog w K mg base "_law_stir" 1 2 m_l_stir := ⟨f5, _, _, ok_l_stir (P := l.prog) (w := w) (base := base) T F5, PySem.W.mg_of X G a5, k5, bb5⟩
  have h_l_draw : Fx l.prog w K mg base "_law_draw" 2 3 m_l_draw := ⟨f6, _, _, ok_l_draw (P := l.prog) (w := w) (base := base) T F6 h_l_cell h_l_stir, PySem.W.mg_of X G a6, k6, bb6⟩
  have h_l_name : Fx l.prog w K mg base "_law_name" 1 2 m_l_name := ⟨f7, _, _, ok_l_name (P := l.prog) (w := w) (base := base) T F7, PySem.W.mg_of X G a7, k7, bb7⟩
  have h_l_many_named : Fx l.prog w K mg base "_law_many_named" 2 2 m_l_many_named := ⟨f8, _, _, ok_l_many_named (P := l.prog) (w := w) (base := base) T F8 h_l_name, PySem.W.mg_of X G a8, k8, bb8⟩
  have h_l_spoilt : Fx l.prog w K mg base "_law_spoilt" 1 2 m_l_spoilt := ⟨f9, _, _, ok_l_spoilt (P := l.prog) (w := w) (base := base) T F9, PySem.W.mg_of X G a9, k9, bb9⟩
  have h_l_is_name : Fx l.prog w K mg base "_law_is_name" 1 1 m_l_is_name := ⟨f10, _, _, ok_l_is_name (P := l.prog) (w := w) (base := base) T F10, PySem.W.mg_of X G a10, k10, bb10⟩
  have h_l_due : Fx l.prog w K mg base "_law_due" 2 1 m_l_due := ⟨f11, _, _, ok_l_due (P := l.prog) (w := w) (base := base) T F11 h_l_is_name, PySem.W.mg_of X G a11, k11, bb11⟩
  have h_l_kind : Ex1 l.prog w K mg base "name" [.type "ValueError", .ref (ca "NoNumber"), .ref (ca "Doubled"), .ref (ca "NoName"), .ref (ca "TooMany")] "_law_kind" 1 m_l_kind := ⟨f12, _, _, ok_l_kind (P := l.prog) (w := w) (base := base) T F12 U, PySem.W.mg_of X G a12, k12, bb12⟩
  have h_l_told : Fx l.prog w K mg base "_law_told" 4 1 m_l_told := ⟨f13, _, _, ok_l_told (P := l.prog) (w := w) (base := base) T F13 U h_check_queue h_l_kind ind_l_kind hx_check_queue, PySem.W.mg_of X G a13, k13, bb13⟩
  exact out_of (ok_law (P := l.prog) (w := w) (base := base) T F14 h_l_told h_l_due h_l_spoilt h_l_draw h_l_many_named h_l_cell) (fun ns hl => math_law  ns hl)
theorem walk {l : PySem.W.OpenLaw} {q : Program} {loose : List Str} {XP : (Str -> Option Value) -> Heap -> Prop} {YP : World -> Heap -> Prop} {d : DefRec} {K : Params -> PySem.W.Frag} (hn : l.most = some 63) (hdf : d.params.defaults = [])
    (hY : ∀ (w : World) (h : Heap), YP w h -> (K w.params).In h)
    (F : ∀ (w : World) (mg : Str -> Option Value) (fa : Addr) (h : Heap), (K w.params).In h -> h.Ns mainGlobals mg -> mg d.name = some (.ref fa) ->
      ∃ fd : FuncData, (∀ (s : Shared) (u : Value), BindsTo s fd ⟨[u], []⟩ [("_law_script", u)]) /\ ∀ base : Heap, (K w.params).In base -> base.Ns mainGlobals mg -> FnOk l.prog w (K w.params) mg base CX0 5 fa fd ["_law_script"] (spOut (K w.params))) :
    PySem.W.WalkO q loose XP YP l.row.toRowW d [] (fun f vs => PySem.call f vs) :=
  L2.walk_of (n := 63) (k := 5) (x := "_law_script") (CX := fun _ => CX0) (sp := fun w => spOut (K w.params)) hn (by decide) hdf ⟨rfl, by decide, by decide⟩ hY F (fun _ _ a ns hl _ hS => ⟨a, ns, rfl, hS, hl, fun _ => rfl⟩) fun _ _ _ _ _ z => z
end My
def PySem.W.Fast.tw12411485509862169504 : Unit := ()
def PySem.W.Fast.tw6662601954109588033 : Unit := ()
def PySem.W.Fast.tw13810178741721935331 : Unit := ()
def PySem.W.Fast.tw15395320414124656905 : Unit := ()
def PySem.W.Fast.tw4591039571344635849 : Unit := ()
def PySem.W.Fast.tw17796209917647353611 : Unit := ()
def PySem.W.Fast.tw5223332383810237296 : Unit := ()
def PySem.W.Fast.tw3505825618839451537 : Unit := ()
def PySem.W.Fast.tw10742120205917440786 : Unit := ()
def PySem.W.Fast.tw16422371557990921588 : Unit := ()
def PySem.W.Fast.tw3588577778248023062 : Unit := ()
def PySem.W.Fast.tw17011368636639845015 : Unit := ()
def PySem.W.Fast.tw13097792539407150872 : Unit := ()
def PySem.W.Fast.tw5194125240701600600 : Unit := ()
def PySem.W.Fast.tw9790994457385998618 : Unit := ()
def PySem.W.Fast.tw13720097669203687162 : Unit := ()
def PySem.W.Fast.tw15643597932802059196 : Unit := ()
def PySem.W.Fast.tw4770098736589555076 : Unit := ()
open PySem PySem.W PyProof.Rows
set_option maxRecDepth 100000 in
set_option maxHeartbeats 0 in
theorem PySem.Challenge.cw_latestturn_k11_queues_refused_holds : PySem.Challenge.rw_latestturn_k11_queues_refused.Holds := by
  w_on; o_law; k_head; (case hw => w_witness2)
  k_fill
  refine My.walk (l := PySem.Challenge.rw_latestturn_k11_queues_refused) rfl rfl (fun w h Y => PySem.W.kIn_of Y) ?F
  case F =>
    intro w mg fa h KX G hmg
    refine' My.all_mk KX G hmg ?a0 ?l0 ?c0 ?k0 ?a1 ?l1 ?c1 ?k1 ?a2 ?l2 ?c2 ?k2 ?a3 ?l3 ?c3 ?k3 ?a4 ?l4 ?c4 ?k4 ?a5 ?l5 ?c5 ?k5 ?a6 ?l6 ?c6 ?k6 ?a7 ?l7 ?c7 ?k7 ?a8 ?l8 ?c8 ?k8 ?a9 ?l9 ?c9 ?k9 ?a10 ?l10 ?c10 ?k10 ?a11 ?l11 ?c11 ?k11 ?a12 ?l12 ?c12 ?k12 ?a13 ?l13 ?c13 ?k13 ?a14 ?l14 ?c14 ?k14 ?tt_Doubled ?tt_TooMany ?tt_NoName ?tt_NoNumber ?tt_HallError ?xl_Doubled ?xmr_Doubled ?xdl_Doubled ?xtl_Doubled ?xok_Doubled ?xin_Doubled ?xkp_Doubled ?xli_Doubled ?xci_Doubled ?xki_Doubled ?sa_Doubled ?xtk_Doubled ?xhd_Doubled ?be_Doubled ?sb_Doubled_HallError ?ga_Doubled ?gt_Doubled ?na_Doubled ?xrd ?xfc ?xsp ?cl_Doubled ?cc_Doubled ?xcg ?xct ?mo_Doubled ?be_NoName ?cl_NoName ?ga_NoName ?gt_NoName ?cc_NoName ?mo_NoName ?be_NoNumber ?cl_NoNumber ?ga_NoNumber ?gt_NoNumber ?cc_NoNumber ?mo_NoNumber ?be_TooMany ?cl_TooMany ?ga_TooMany ?gt_TooMany ?cc_TooMany ?mo_TooMany ?sb_NoName_Doubled ?nt_Doubled ?sb_NoNumber_Doubled ?sb_TooMany_Doubled ?su_Doubled_ValueError ?su_NoName_ValueError ?su_NoNumber_ValueError ?su_TooMany_ValueError ?xl_NoName ?xmr_NoName ?xdl_NoName ?xtl_NoName ?xok_NoName ?xin_NoName ?xkp_NoName ?xl_NoNumber ?xmr_NoNumber ?xdl_NoNumber ?xtl_NoNumber ?xok_NoNumber ?xin_NoNumber ?xkp_NoNumber ?xl_TooMany ?xmr_TooMany ?xdl_TooMany ?xtl_TooMany ?xok_TooMany ?xin_TooMany ?xkp_TooMany ?sb_Doubled_Doubled ?sb_NoName_HallError ?nt_HallError ?cl_HallError ?be_HallError ?sb_NoNumber_HallError ?sb_TooMany_HallError ?ty_NoName ?sb_Doubled_NoName ?ty_NoNumber ?sb_Doubled_NoNumber ?ty_TooMany ?sb_Doubled_TooMany ?sb_NoName_NoName ?ty_Doubled ?sb_NoName_NoNumber ?sb_NoName_TooMany ?sb_NoNumber_NoNumber ?sb_NoNumber_NoName ?sb_NoNumber_TooMany ?sb_TooMany_TooMany ?sb_TooMany_NoName ?sb_TooMany_NoNumber ?b_ValueError ?b_all ?b_bool ?b_enumerate ?b_int ?b_isinstance ?b_len ?b_list ?b_min ?b_range ?b_str ?c_FIGURES ?c_LETTERS ?c_MOST_LEFT ?c_MOST_SIGNS ?c_MOST_TICKETS
    (case a0 => k_is)
    (case l0 => k_is)
    (case c0 => k_is)
    (case k0 => k_is)
    (case a1 => k_is)
    (case l1 => k_is)
    (case c1 => k_is)
    (case k1 => k_is)
    (case a2 => k_is)
    (case l2 => k_is)
    (case c2 => k_is)
    (case k2 => k_is)
    (case a3 => k_is)
    (case l3 => k_is)
    (case c3 => k_is)
    (case k3 => k_is)
    (case a4 => k_is)
    (case l4 => k_is)
    (case c4 => k_is)
    (case k4 => k_is)
    (case a5 => k_is)
    (case l5 => k_is)
    (case c5 => k_is)
    (case k5 => k_is)
    (case a6 => k_is)
    (case l6 => k_is)
    (case c6 => k_is)
    (case k6 => k_is)
    (case a7 => k_is)
    (case l7 => k_is)
    (case c7 => k_is)
    (case k7 => k_is)
    (case a8 => k_is)
    (case l8 => k_is)
    (case c8 => k_is)
    (case k8 => k_is)
    (case a9 => k_is)
    (case l9 => k_is)
    (case c9 => k_is)
    (case k9 => k_is)
    (case a10 => k_is)
    (case l10 => k_is)
    (case c10 => k_is)
    (case k10 => k_is)
    (case a11 => k_is)
    (case l11 => k_is)
    (case c11 => k_is)
    (case k11 => k_is)
    (case a12 => k_is)
    (case l12 => k_is)
    (case c12 => k_is)
    (case k12 => k_is)
    (case a13 => k_is)
    (case l13 => k_is)
    (case c13 => k_is)
    (case k13 => k_is)
    (case a14 => k_is)
    (case l14 => k_is)
    (case c14 => k_is)
    (case k14 => k_is)
    (case tt_Doubled => k_is)
    (case tt_TooMany => k_is)
    (case tt_NoName => k_is)
    (case tt_NoNumber => k_is)
    (case tt_HallError => k_is)
    (case xl_Doubled => k_is)
    (case xmr_Doubled => rfl)
    (case xdl_Doubled => rfl)
    (case xtl_Doubled => kernel_rfl)
    (case xok_Doubled => kernel_rfl)
    (case xin_Doubled => k_is)
    (case xkp_Doubled => k_is)
    (case xli_Doubled => k_is)
    (case xci_Doubled => k_is)
    (case xki_Doubled => k_is)
    (case sa_Doubled => k_is)
    (case xtk_Doubled => k_is)
    (case xhd_Doubled => k_is)
    (case be_Doubled => k_is)
    (case sb_Doubled_HallError => k_is)
    (case ga_Doubled => k_is)
    (case gt_Doubled => k_is)
    (case na_Doubled => k_is)
    (case xrd => k_is)
    (case xfc => k_is)
    (case xsp => k_is)
    (case cl_Doubled => k_is)
    (case cc_Doubled => k_is)
    (case xcg => k_is)
    (case xct => k_is)
    (case mo_Doubled => k_is)
    (case be_NoName => k_is)
    (case cl_NoName => k_is)
    (case ga_NoName => k_is)
    (case gt_NoName => k_is)
    (case cc_NoName => k_is)
    (case mo_NoName => k_is)
    (case be_NoNumber => k_is)
    (case cl_NoNumber => k_is)
    (case ga_NoNumber => k_is)
    (case gt_NoNumber => k_is)
    (case cc_NoNumber => k_is)
    (case mo_NoNumber => k_is)
    (case be_TooMany => k_is)
    (case cl_TooMany => k_is)
    (case ga_TooMany => k_is)
    (case gt_TooMany => k_is)
    (case cc_TooMany => k_is)
    (case mo_TooMany => k_is)
    (case sb_NoName_Doubled => k_is)
    (case nt_Doubled => k_is)
    (case sb_NoNumber_Doubled => k_is)
    (case sb_TooMany_Doubled => k_is)
    (case su_Doubled_ValueError => k_is)
    (case su_NoName_ValueError => k_is)
    (case su_NoNumber_ValueError => k_is)
    (case su_TooMany_ValueError => k_is)
    (case xl_NoName => k_is)
    (case xmr_NoName => rfl)
    (case xdl_NoName => rfl)
    (case xtl_NoName => kernel_rfl)
    (case xok_NoName => kernel_rfl)
    (case xin_NoName => k_is)
    (case xkp_NoName => k_is)
    (case xl_NoNumber => k_is)
    (case xmr_NoNumber => rfl)
    (case xdl_NoNumber => rfl)
    (case xtl_NoNumber => kernel_rfl)
    (case xok_NoNumber => kernel_rfl)
    (case xin_NoNumber => k_is)
    (case xkp_NoNumber => k_is)
    (case xl_TooMany => k_is)
    (case xmr_TooMany => rfl)
    (case xdl_TooMany => rfl)
    (case xtl_TooMany => kernel_rfl)
    (case xok_TooMany => kernel_rfl)
    (case xin_TooMany => k_is)
    (case xkp_TooMany => k_is)
    (case sb_Doubled_Doubled => k_is)
    (case sb_NoName_HallError => k_is)
    (case nt_HallError => k_is)
    (case cl_HallError => k_is)
    (case be_HallError => k_is)
    (case sb_NoNumber_HallError => k_is)
    (case sb_TooMany_HallError => k_is)
    (case ty_NoName => k_is)
    (case sb_Doubled_NoName => k_is)
    (case ty_NoNumber => k_is)
    (case sb_Doubled_NoNumber => k_is)
    (case ty_TooMany => k_is)
    (case sb_Doubled_TooMany => k_is)
    (case sb_NoName_NoName => k_is)
    (case ty_Doubled => k_is)
    (case sb_NoName_NoNumber => k_is)
    (case sb_NoName_TooMany => k_is)
    (case sb_NoNumber_NoNumber => k_is)
    (case sb_NoNumber_NoName => k_is)
    (case sb_NoNumber_TooMany => k_is)
    (case sb_TooMany_TooMany => k_is)
    (case sb_TooMany_NoName => k_is)
    (case sb_TooMany_NoNumber => k_is)
    (case b_ValueError => k_is)
    (case b_all => k_is)
    (case b_bool => k_is)
    (case b_enumerate => k_is)
    (case b_int => k_is)
    (case b_isinstance => k_is)
    (case b_len => k_is)
    (case b_list => k_is)
    (case b_min => k_is)
    (case b_range => k_is)
    (case b_str => k_is)
    (case c_FIGURES => k_is)
    (case c_LETTERS => k_is)
    (case c_MOST_LEFT => k_is)
    (case c_MOST_SIGNS => k_is)
    (case c_MOST_TICKETS => k_is)
#print axioms PySem.Challenge.cw_latestturn_k11_queues_refused_holds
end

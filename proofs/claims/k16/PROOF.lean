import PyProof.Rows.All
import Wide.All
import OpenK.AllK
import Wide.FinOn
import Lean
import PyProof.EqAt
import PyProof.EqKinds
import PyProof.TupleCall
import PySem.Challenge.RW_trueword_k16_no_payments
-- CHANGE: your row's module here, as the last of these rows
set_option Elab.async false
set_option linter.all false
set_option maxRecDepth 100000
/-! THE HAND LAYER, for ints, bools, texts, own classes, LISTS and tuples (index, slices, in, append, pop ..), calls, loops. Paste it whole ahead of your own text; what your proof does not reach may be deleted. -/
namespace L2
open PySem PySem.Spec PyProof.Rows

/-- a key: an int or a str -/
abbrev Key := Sum Int Str
def keyIs : Key → Value → Bool
  | .inl k, v => Value.isInt k v
  | .inr x, v => Value.isStrOf x v
def keyH (w : World) : Key → Int
  | .inl k => hashInt k
  | .inr x => hashStr w x
theorem keyIs_shape : ∀ {k : Key} {v : Value}, keyIs k v = true → (∃ i t, k = Sum.inl i ∧ v = Value.int i t) ∨ (∃ x t, k = Sum.inr x ∧ v = Value.str x t)
  | .inl i, v, h => by
    obtain ⟨t, e⟩ := Value.isInt_shape (k := i) (v := v) h
    exact .inl ⟨i, t, rfl, e⟩
  | .inr x, v, h => by
    obtain ⟨t, e⟩ := Value.isStrOf_shape (x := x) (v := v) h
    exact .inr ⟨x, t, rfl, e⟩
theorem key_ll (a b : Int) : decide ((Sum.inl a : Key) = Sum.inl b) = (a == b) := by
  by_cases e : a = b
  · subst e; simp
  · have h : ¬ (Sum.inl a : Key) = Sum.inl b := fun q => e (Sum.inl.inj q)
    rw [decide_eq_false h]
    exact (beq_eq_false_iff_ne.mpr e).symm
theorem key_rr (a b : Str) : decide ((Sum.inr a : Key) = Sum.inr b) = decide (a = b) := by
  by_cases e : a = b
  · subst e; simp
  · have h : ¬ (Sum.inr a : Key) = Sum.inr b := fun q => e (Sum.inr.inj q)
    rw [decide_eq_false h, decide_eq_false e]
theorem key_lr (a : Int) (b : Str) : decide ((Sum.inl a : Key) = Sum.inr b) = false := decide_eq_false (fun q => nomatch q)
theorem key_rl (a : Str) (b : Int) : decide ((Sum.inr a : Key) = Sum.inl b) = false := decide_eq_false (fun q => nomatch q)

def mixKind (prog : Program) (w : World) : PySem.KeyKind prog w Key where
  is := keyIs
  hash := keyH w
  inj := fun v a b ha hb => by
    rcases keyIs_shape ha with ⟨i, t, rfl, rfl⟩ | ⟨x, t, rfl, rfl⟩
    · rcases keyIs_shape hb with ⟨j, u, rfl, e⟩ | ⟨y, u, rfl, e⟩
      · injection e with e1 _; rw [e1]
      · exact nomatch e
    · rcases keyIs_shape hb with ⟨j, u, rfl, e⟩ | ⟨y, u, rfl, e⟩
      · exact nomatch e
      · injection e with e1 _; rw [e1]
  byValue := fun k v h => by
    rcases keyIs_shape h with ⟨i, t, rfl, rfl⟩ | ⟨x, t, rfl, rfl⟩ <;> rfl
  pyHash := fun hv h => by
    rcases keyIs_shape hv with ⟨i, t, rfl, rfl⟩ | ⟨x, t, rfl, rfl⟩
    · exact wpAny_pyHash_int h
    · exact wpAny_pyHash_str h
  eqBool := fun hu hv h => by
    rcases keyIs_shape hu with ⟨i, t, rfl, rfl⟩ | ⟨x, t, rfl, rfl⟩
    · rcases keyIs_shape hv with ⟨j, u, rfl, rfl⟩ | ⟨y, u, rfl, rfl⟩
      · rw [key_ll] at h; exact wpAny_eqBool_int h
      · rw [key_lr] at h; exact SeqAt.EqAt.int_str i t y u _ _ _ _ h
    · rcases keyIs_shape hv with ⟨j, u, rfl, rfl⟩ | ⟨y, u, rfl, rfl⟩
      · rw [key_rl] at h; exact SeqAt.EqAt.str_int x t j u _ _ _ _ h
      · rw [key_rr] at h; exact wpAny_eqBool_str h
  «strs» := fun k x t v h => by
    rcases keyIs_shape h with ⟨i, u, rfl, e⟩ | ⟨y, u, rfl, e⟩
    · exact nomatch e
    · injection e with e1 _
      subst e1
      cases v <;> rfl

end L2

namespace L2
open PySem PySem.Spec PyProof.Rows

/-- a value, without the heap -/
inductive V where
  | non | bl (b : Bool) | int (i : Int) | str (x : Str) | byt (b : Array UInt8) | flt (b : UInt64) | ref (a : Addr) | ty (n : String)
  deriving DecidableEq

def RelV : V → Value → Prop
  | .non, u => u = Value.none
  | .bl b, u => u = Value.bool b
  | .int i, u => ∃ t, u = Value.int i t
  | .str x, u => ∃ t, u = Value.str x t
  | .byt b, u => ∃ t, u = Value.bytes b t
  | .flt b, u => ∃ t, u = Value.float b t
  | .ref a, u => u = Value.ref a
  | .ty n, u => u = Value.type n

abbrev Vals : List V → List Value → Prop := Paired RelV
theorem Vals.length {xs : List V} {us : List Value} (r : Vals xs us) : xs.length = us.length := Paired.length r
theorem Vals.get : ∀ {xs : List V} {us : List Value} {i : Nat} {x : V}, Vals xs us → xs[i]? = some x → ∃ u, us[i]? = some u ∧ RelV x u
  | _, _, _, _, .nil, e => by simp at e
  | _, _, 0, _, .cons r _, e => by simp at e; subst e; exact ⟨_, rfl, r⟩
  | _, _, i + 1, x, .cons _ t, e => by
    obtain ⟨u, h1, h2⟩ := Vals.get (i := i) (x := x) t (by simpa using e)
    exact ⟨u, by simpa using h1, h2⟩
theorem Vals.set {x : V} {u : Value} (r : RelV x u) : ∀ {xs : List V} {us : List Value} (i : Nat), Vals xs us → Vals (xs.set i x) (us.set i u)
  | _, _, _, .nil => .nil
  | _, _, 0, .cons _ t => .cons r t
  | _, _, i + 1, .cons q t => .cons q (Vals.set r i t)
theorem Vals.append : ∀ {xs ys : List V} {us ws : List Value}, Vals xs us → Vals ys ws → Vals (xs ++ ys) (us ++ ws)
  | _, _, _, _, .nil, s => s
  | _, _, _, _, .cons r t, s => .cons r (Vals.append t s)
theorem Vals.take : ∀ {xs : List V} {us : List Value} (n : Nat), Vals xs us → Vals (xs.take n) (us.take n)
  | _, _, 0, _ => .nil
  | _, _, _ + 1, .nil => .nil
  | _, _, n + 1, .cons r t => .cons r (Vals.take n t)
theorem Vals.drop : ∀ {xs : List V} {us : List Value} (n : Nat), Vals xs us → Vals (xs.drop n) (us.drop n)
  | _, _, 0, r => r
  | _, _, _ + 1, .nil => .nil
  | _, _, n + 1, .cons _ t => Vals.drop n t
def RelO : Option V → Option Value → Prop
  | some v, some u => RelV v u
  | none, none => True
  | _, _ => False
def KV {κ : Type} : List (κ × V) → List (κ × Value) → Prop := Paired fun (p : κ × V) (q : κ × Value) => p.1 = q.1 ∧ RelV p.2 q.2

/-- a key of a dict (00_mix): an int or a text -/
def kV : Key → V
  | .inl i => .int i
  | .inr x => .str x

/-- what stands at a tracked address -/
inductive HO where
  /-- a list -/
  | lst (xs : List V)
  /-- a tuple (never changes) -/
  | tup (xs : List V)
  /-- a dict whose keys are ints and texts; one whose keys are tuples of ints and texts (the empty one is both) -/
  | dK (kvs : List (Key × V)) | dT (kvs : List (List Key × V))
  /-- a set of ints: its members, its size -/
  | set (S : Int → Bool) (n : Nat)
  /-- an instance of the class at C, its dict at dx, its attributes -/
  | ins (C dx : Addr) (fs : List (Str × V))
  /-- the dict of the instance at x -/
  | own (x : Addr)
  /-- the dict of an exception -/
  | xd (fs : List (Str × V))
  /-- a bound method, f of x -/
  | met (f x : Addr)
  /-- a range object lo, lo + 1, .. below hi -/
  | rng (lo hi : Int)
  /-- a thing that is known to the object (the script; a dict while a loop walks it): read, never written while it is so -/
  | frz (o : Obj) (u : HO)
  /-- a code object's table -/
  | tbl (ps : Array Value)
  /-- any other thing, by what is true of its one object (a def of one's own: SetO a S n := HO.ext fun h => ..) -/
  | ext (φ : Heap → Prop)

abbrev Hp := Addr → Option HO
def upd (H : Hp) (a : Addr) (o : HO) : Hp := fun b => if b = a then some o else H b
theorem upd_same {H : Hp} {a : Addr} {o : HO} : upd H a o a = some o := by unfold upd; rw [if_pos rfl]
theorem upd_ne {H : Hp} {a b : Addr} {o : HO} (h : b ≠ a) : upd H a o b = H b := by unfold upd; rw [if_neg h]
theorem ne_of_none {H : Hp} {a b : Addr} {o : HO} (h : H a = some o) (h' : H b = none) : a ≠ b := by
  intro e; subst e; rw [h] at h'; cases h'

/-- a tuple without a dict of its own -/
def IsTupD (h : Heap) (a : Addr) (items : Array Value) : Prop := ∃ o, h.get? a = some o ∧ o.cls = .type "tuple" ∧ ∃ n, o.data = .seq items n ∧ o.dict = none
theorem IsTupD.tup {h : Heap} {a : Addr} {items : Array Value} (q : IsTupD h a items) : IsTup h a items := by
  obtain ⟨o, e, c, n, d, _⟩ := q
  exact ⟨o, e, c, n, d⟩
theorem IsTupD.new (h : Heap) (items : Array Value) : IsTupD (h.push { cls := .type "tuple", data := .seq items }) h.objs.size items := ⟨_, Heap.get?_push_size _ rfl, rfl, _, rfl, rfl⟩
section
variable (P : Program) (w : World)
def ObjOk (H : Hp) (h : Heap) (a : Addr) : HO → Prop
  | .lst xs => xs.length ≤ sizeLine ∧ ∃ (its : List Value) (n : Nat), Vals xs its ∧ h.get? a = some { cls := .type "list", data := .seq its.toArray n }
  | .tup xs => xs.length ≤ sizeLine ∧ ∃ its : List Value, Vals xs its ∧ IsTupD h a its.toArray
  | .dK kvs => kvs.length ≤ sizeLine ∧ (a == sysModules) = false ∧ ∃ vs, KV kvs vs ∧ h.DictOf (mixKind P w) a vs
  | .dT kvs => kvs.length ≤ sizeLine ∧ (a == sysModules) = false ∧ ∃ xs : List (List Key × Addr × Value),
      Paired (fun (p : List Key × V) (q : List Key × Addr × Value) => p.1 = q.1 ∧ H q.2.1 = some (.tup (p.1.map kV)) ∧ RelV p.2 q.2.2) kvs xs ∧
      ∃ o es ep, h.get? a = some o ∧ o.ExactDict ∧ o.data = .dict es ep ∧ es.toList = xs.map (entryOfKey (tupleKind (mixKind P w))) ∧ (xs.map (·.1)).Nodup
  | .set S n => h.SetOf (intKind P w) a S n
  | .ins C dx fs => H dx = some (.own a) ∧ fs.length ≤ 1000 ∧ dx ≠ a ∧ h.get? a = some (PySem.W.instObj C dx) ∧
      ∃ mA, h.Ns1 dx mA ∧ (∀ f, RelO (fs.lookup f) (mA f)) ∧ PySem.Within mA (fs.map (·.1))
  | .own _ => ∃ o, h.get? a = some o
  | .xd fs => ∃ mA, h.Ns1 a mA ∧ ∀ f, RelO (fs.lookup f) (mA f)
  | .rng lo hi => ∃ t u v, h.get? a = some { cls := .type "range", data := .fields #[.int lo t, .int hi u, .int 1 v] }
  | .frz o u => h.get? a = some o ∧ ObjOk H h a u
  | .tbl ps => h.get? a = some { cls := .none, data := .fields ps }
  | .met f x => h.get? a = some (PySem.W.methodObj (.ref f) (.ref x))
  | .ext φ => φ h ∧ (∃ o, h.get? a = some o) ∧ ∀ h1 h2 : Heap, φ h1 → (∀ o, h1.get? a = some o → h2.get? a = some o) → φ h2
/-- the abstract heap is held -/
def HOk (H : Hp) (h : Heap) : Prop := ∀ a o, H a = some o → ObjOk P w H h a o
end

section
variable {P : Program} {w : World} {H H' : Hp} {h h' : Heap} {a : Addr} {o : HO}
theorem ObjOk.lt (x : ObjOk P w H h a o) : a < h.objs.size := by
  cases o with
  | lst xs => obtain ⟨_, _, _, _, e⟩ := x; exact Heap.lt_size e
  | tup xs => obtain ⟨_, _, _, p⟩ := x; exact p.tup.lt
  | dK kvs => obtain ⟨_, _, _, _, o, _, _, e, _⟩ := x; exact Heap.lt_size e
  | dT kvs => obtain ⟨_, _, _, _, o, _, _, e, _⟩ := x; exact Heap.lt_size e
  | set S n => obtain ⟨o, _, _, _, e, _⟩ := x; exact Heap.lt_size e
  | ins C dx fs => obtain ⟨_, _, _, e, _⟩ := x; exact Heap.lt_size e
  | own y => obtain ⟨_, e⟩ := x; exact Heap.lt_size e
  | xd fs => obtain ⟨_, ⟨_, _, _, e, _⟩, _⟩ := x; exact Heap.lt_size e
  | rng lo hi => obtain ⟨_, _, _, e⟩ := x; exact Heap.lt_size e
  | frz ob u => obtain ⟨e, _⟩ := x; exact Heap.lt_size e
  | tbl ps => exact Heap.lt_size (show h.get? a = some _ from x)
  | met f y => exact Heap.lt_size (show h.get? a = some _ from x)
  | ext φ => obtain ⟨_, ⟨_, e⟩, _⟩ := x; exact Heap.lt_size e
theorem Paired.mapP {α β : Type} {F G : α → β → Prop} : ∀ {l₁ : List α} {l₂ : List β}, Paired F l₁ l₂ → (∀ a b, F a b → G a b) → Paired G l₁ l₂
  | _, _, .nil, _ => .nil
  | _, _, .cons r t, f => .cons (f _ _ r) (Paired.mapP t f)
/-- what an object's description leans on: its own object, its own dict, the tuples -/
theorem ObjOk.stay (x : ObjOk P w H h a o) (k : ∀ b u, (b = a ∨ H b = some (.own a)) → h.get? b = some u → h'.get? b = some u)
    (ho : ∀ b, H b = some (.own a) → H' b = some (.own a)) (ht : ∀ b xs, H b = some (.tup xs) → H' b = some (.tup xs)) : ObjOk P w H' h' a o := by
  induction o with
  | lst xs => obtain ⟨z, its, n, r, e⟩ := x; exact ⟨z, its, n, r, k _ _ (.inl rfl) e⟩
  | tup xs => obtain ⟨z, its, r, ob, e, c⟩ := x; exact ⟨z, its, r, ob, k _ _ (.inl rfl) e, c⟩
  | dK kvs => obtain ⟨z, y, vs, r, ob, es, ep, e, c⟩ := x; exact ⟨z, y, vs, r, ob, es, ep, k _ _ (.inl rfl) e, c⟩
  | dT kvs =>
    obtain ⟨z, y, xs, r, ob, es, ep, e, c⟩ := x
    exact ⟨z, y, xs, Paired.mapP r fun p q z => ⟨z.1, ht _ _ z.2.1, z.2.2⟩, ob, es, ep, k _ _ (.inl rfl) e, c⟩
  | set S n => obtain ⟨ob, es, ep, t, e, c⟩ := x; exact ⟨ob, es, ep, t, k _ _ (.inl rfl) e, c⟩
  | ins C dx fs =>
    obtain ⟨d, z, ne, e, mA, ⟨od, es, ep, e2, c⟩, r⟩ := x
    exact ⟨ho _ d, z, ne, k _ _ (.inl rfl) e, mA, ⟨od, es, ep, k _ _ (.inr d) e2, c⟩, r⟩
  | own y => obtain ⟨ob, e⟩ := x; exact ⟨ob, k _ _ (.inl rfl) e⟩
  | xd fs => obtain ⟨mA, ⟨od, es, ep, e, c⟩, r⟩ := x; exact ⟨mA, ⟨od, es, ep, k _ _ (.inl rfl) e, c⟩, r⟩
  | rng lo hi => obtain ⟨t, u, v, e⟩ := x; exact ⟨t, u, v, k _ _ (.inl rfl) e⟩
  | frz ob u ih => obtain ⟨e, q⟩ := x; exact ⟨k _ _ (.inl rfl) e, ih q⟩
  | tbl ps =>
    have e : h.get? a = some { cls := .none, data := .fields ps } := x
    show h'.get? a = some { cls := .none, data := .fields ps }
    exact k a _ (.inl rfl) e
  | met f y =>
    have e : h.get? a = some (PySem.W.methodObj (.ref f) (.ref y)) := x
    show h'.get? a = some (PySem.W.methodObj (.ref f) (.ref y))
    exact k a _ (.inl rfl) e
  | ext φ => obtain ⟨p, ⟨o, e⟩, st⟩ := x; exact ⟨st _ _ p fun o q => k _ _ (.inl rfl) q, ⟨o, k _ _ (.inl rfl) e⟩, st⟩
theorem HOk.lt (x : HOk P w H h) (e : H a = some o) : a < h.objs.size := (x a o e).lt
theorem HOk.fresh (x : HOk P w H h) (e : h.objs.size ≤ a) : H a = none := by
  cases q : H a with
  | none => rfl
  | some u => exact absurd (Nat.lt_of_lt_of_le (x.lt q) e) (Nat.lt_irrefl _)
/-- every object of the heap is kept -/
theorem HOk.kept (x : HOk P w H h) (k : ∀ b u, h.get? b = some u → h'.get? b = some u) : HOk P w H h' := fun a o e =>
  (x a o e).stay (fun b u _ q => k b u q) (fun _ q => q) fun _ _ q => q
/-- a new object is laid and tracked -/
theorem HOk.laid (x : HOk P w H h) (k : ∀ b u, h.get? b = some u → h'.get? b = some u) (hp : h.objs.size ≤ a) (new : ObjOk P w (upd H a o) h' a o) : HOk P w (upd H a o) h' := fun b u e => by
  have hn := x.fresh hp
  by_cases hb : b = a
  · subst hb; rw [upd_same] at e; cases e; exact new
  · rw [upd_ne hb] at e
    exact (x b u e).stay (fun c v _ q => k c v q) (fun c q => by rw [upd_ne (ne_of_none q hn)]; exact q) fun c xs q => by rw [upd_ne (ne_of_none q hn)]; exact q
end

/-- what may be read as u: it is u, or a known u -/
def Rd (H : Hp) (a : Addr) (u : HO) : Prop := H a = some u ∨ ∃ o, H a = some (.frz o u)
theorem Rd.of {H : Hp} {a : Addr} {u : HO} (h : H a = some u) : Rd H a u := .inl h
theorem Rd.ok {P : Program} {w : World} {H : Hp} {h : Heap} {a : Addr} {u : HO} (r : Rd H a u) (x : HOk P w H h) : ObjOk P w H h a u := by
  rcases r with r | ⟨o, r⟩
  · exact x a u r
  · obtain ⟨_, q⟩ := x a _ r
    exact q
/-- what may be written -/
def Mut : Option HO → Prop
  | some (.lst _) => True
  | some (.dK _) => True
  | some (.dT _) => True
  | some (.set _ _) => True
  | some (.ins _ _ _) => True
  | some (.ext _) => True
  | _ => False
section
variable {P : Program} {w : World} {H : Hp} {h h' : Heap} {x e : Addr} {o' : HO}
/-- the object at e is changed: x itself, or the dict of the instance x -/
theorem HOk.write (ok : HOk P w H h) (mu : Mut (H x)) (he : e = x ∨ H e = some (.own x)) (k : ∀ b u, b ≠ e → h.get? b = some u → h'.get? b = some u) (heo : ∃ u, h'.get? e = some u)
    (new : ObjOk P w (upd H x o') h' x o') : HOk P w (upd H x o') h' := fun b u q => by
  have nown : ∀ c y, H c = some (.own y) → c ≠ x := fun c y r z => by subst z; rw [r] at mu; exact mu
  have ntup : ∀ c xs, H c = some (.tup xs) → c ≠ x := fun c xs r z => by subst z; rw [r] at mu; exact mu
  by_cases hb : b = x
  · subst hb; rw [upd_same] at q; cases q; exact new
  · rw [upd_ne hb] at q
    by_cases hbe : b = e
    · have q' : H b = some (.own x) := by
        rcases he with z | z
        · exact absurd (hbe.trans z) hb
        · rw [hbe]; exact z
      rw [q] at q'; cases q'
      obtain ⟨v, hv⟩ := heo
      exact ⟨v, by rw [hbe]; exact hv⟩
    · refine (ok b u q).stay (fun c v hc r => k c v ?_ r) (fun c r => by rw [upd_ne (nown c b r)]; exact r) fun c xs r => by rw [upd_ne (ntup c xs r)]; exact r
      rcases hc with rfl | hc
      · exact hbe
      · rintro rfl
        rcases he with z | z
        · exact nown c b hc z
        · rw [hc] at z; cases z; exact hb rfl
end

/-! ### kept unless tracked; of the frames at fs (the callers') the slots may change (an exception that passes writes there); of the records at ex (iterators) nothing is said -/
structure Un (fs ex : List Addr) (H H' : Hp) (h h' : Heap) : Prop where
  keep : ∀ b o, h.get? b = some o → H b = none → b ∉ fs → b ∉ ex → h'.get? b = some o
  slot : ∀ b o, h.get? b = some o → H b = none → b ∈ fs → b ∉ ex → ∃ sl, h'.get? b = some { o with slots := sl }
  free : ∀ b o, h.get? b = some o → H b = none → b ∉ ex → H' b = none
  there : ∀ b o, h.get? b = some o → b ∉ ex → ∃ o', h'.get? b = some o'
  tups : ∀ b xs, H b = some (.tup xs) → H' b = some (.tup xs)
  frzs : ∀ b o u, H b = some (.frz o u) → H' b = some (.frz o u)
  tbls : ∀ b ps, H b = some (.tbl ps) → ∃ more, H' b = some (.tbl (ps ++ more))
section
variable {fs fs' ex ex' : List Addr} {H H1 H2 : Hp} {h h1 h2 h' : Heap} {a x e : Addr} {o : HO}
theorem Un.any (u : Un fs ex H H1 h h1) {b : Addr} {ob : Obj} (q : h.get? b = some ob) (n : H b = none) (hx : b ∉ ex) : ∃ sl, h1.get? b = some { ob with slots := sl } := by
  by_cases hb : b ∈ fs
  · exact u.slot b ob q n hb hx
  · exact ⟨ob.slots, u.keep b ob q n hb hx⟩
theorem Un.trans (a : Un fs ex H H1 h h1) (b : Un fs ex H1 H2 h1 h2) : Un fs ex H H2 h h2 where
  keep := fun c ob q n hc hx => b.keep c ob (a.keep c ob q n hc hx) (a.free c ob q n hx) hc hx
  slot := fun c ob q n hc hx => by
    obtain ⟨sl, e1⟩ := a.slot c ob q n hc hx
    obtain ⟨sl', e2⟩ := b.slot c _ e1 (a.free c ob q n hx) hc hx
    exact ⟨sl', e2⟩
  free := fun c ob q n hx => by
    obtain ⟨o', e1⟩ := a.there c ob q hx
    exact b.free c o' e1 (a.free c ob q n hx) hx
  there := fun c ob q hx => by
    obtain ⟨o', e1⟩ := a.there c ob q hx
    exact b.there c o' e1 hx
  tups := fun c xs q => b.tups c xs (a.tups c xs q)
  frzs := fun c ob xs q => b.frzs c ob xs (a.frzs c ob xs q)
  tbls := fun c ps q => by
    obtain ⟨m1, e1⟩ := a.tbls c ps q
    obtain ⟨m2, e2⟩ := b.tbls c _ e1
    exact ⟨m1 ++ m2, by rw [e2, Array.append_assoc]⟩
theorem Un.kept (k : ∀ b u, h.get? b = some u → h'.get? b = some u) : Un fs ex H H h h' :=
  ⟨fun b ob q _ _ _ => k b ob q, fun b ob q _ _ _ => ⟨ob.slots, k b ob q⟩, fun _ _ _ n _ => n, fun b ob q _ => ⟨ob, k b ob q⟩, fun _ _ q => q, fun _ _ _ q => q, fun _ ps q => ⟨#[], by rw [q]; simp⟩⟩
theorem Un.refl : Un fs ex H H h h := Un.kept fun _ _ q => q
theorem Un.laid (k : ∀ b u, h.get? b = some u → h'.get? b = some u) (hp : h.objs.size ≤ a) (hn : H a = none) : Un fs ex H (upd H a o) h h' where
  keep := fun b u q _ _ _ => k b u q
  slot := fun b u q _ _ _ => ⟨u.slots, k b u q⟩
  free := fun b u q n _ => by rw [upd_ne (Nat.ne_of_lt (Nat.lt_of_lt_of_le (Heap.lt_size q) hp))]; exact n
  there := fun b u q _ => ⟨u, k b u q⟩
  tups := fun b xs q => by rw [upd_ne (ne_of_none q hn)]; exact q
  frzs := fun b u xs q => by rw [upd_ne (ne_of_none q hn)]; exact q
  tbls := fun b ps q => ⟨#[], by rw [upd_ne (ne_of_none q hn), q]; simp⟩
theorem Un.write (mu : Mut (H x)) (he : e = x ∨ H e = some (.own x)) (k : ∀ b u, b ≠ e → h.get? b = some u → h'.get? b = some u) (heo : ∃ u, h'.get? e = some u) : Un fs ex H (upd H x o) h h' := by
  have hx : ∀ b, H b = none → b ≠ x := fun b n z => by subst z; rw [n] at mu; exact mu
  have hb : ∀ b, H b = none → b ≠ e := fun b n z => by
    subst z
    rcases he with r | r
    · exact hx b n r
    · rw [n] at r; cases r
  have hm : ∀ b u, H b = some u → ¬ Mut (some u) → b ≠ x := fun b u q nm z => by subst z; rw [q] at mu; exact nm mu
  refine ⟨fun b u q n _ _ => k b u (hb b n) q, fun b u q n _ _ => ⟨u.slots, k b u (hb b n) q⟩, fun b u q n _ => by rw [upd_ne (hx b n)]; exact n, fun b u q _ => ?_,
    fun b xs q => by rw [upd_ne (hm b _ q fun z => z)]; exact q, fun b u xs q => by rw [upd_ne (hm b _ q fun z => z)]; exact q, fun b ps q => ⟨#[], by rw [upd_ne (hm b _ q fun z => z), q]; simp⟩⟩
  by_cases hbe : b = e
  · subst hbe; exact heo
  · exact ⟨u, k b u hbe q⟩
theorem Un.mono (u : Un fs ex H H1 h h1) (hs : ∀ b ∈ fs, b ∈ fs') (hx : ∀ b ∈ ex, b ∈ ex') : Un fs' ex' H H1 h h1 :=
  ⟨fun b ob q n hb he => u.keep b ob q n (fun z => hb (hs b z)) fun z => he (hx b z), fun _ _ q n _ he => u.any q n fun z => he (hx _ z), fun b ob q n he => u.free b ob q n fun z => he (hx b z), fun b ob q he => u.there b ob q fun z => he (hx b z), u.tups, u.frzs, u.tbls⟩
end

/-! ### the heap without what is tracked -/
def trk (h : Heap) (H : Hp) : List Addr := (List.range h.objs.size).filter fun a => (H a).isSome
def hidT (h : Heap) (H : Hp) : Heap := PySem.W.hideAll h (trk h H)
theorem hidT_size (h : Heap) (H : Hp) : (hidT h H).objs.size = h.objs.size := PySem.W.hideAll_size _ _
theorem hidT_get {h : Heap} {H : Hp} {b : Addr} {o : Obj} (e : h.get? b = some o) (n : H b = none) : (hidT h H).get? b = some o :=
  PySem.W.hideAll_get _ e fun hm => by
    have q : (H b).isSome = true := (List.mem_filter.mp hm).2
    rw [n] at q; simp at q
theorem of_hidT {h : Heap} {H : Hp} {b : Addr} {o : Obj} (e : (hidT h H).get? b = some o) : h.get? b = some o ∧ H b = none := by
  have e' : h.get? b = some o := PySem.W.of_hideAll (trk h H) e
  refine ⟨e', ?_⟩
  cases q : H b with
  | none => rfl
  | some x =>
    have hm : b ∈ trk h H := List.mem_filter.mpr ⟨List.mem_range.mpr (Heap.lt_size e'), by simp [q]⟩
    have z : (hidT h H).get? b = none := PySem.W.hideAll_none (trk h H) hm
    rw [z] at e; cases e

/-! ### OpenK's ledger, filled with every new object but one -/
def allNews (g h : Heap) (L : Addr) : List (Addr × Obj) := (List.range h.objs.size).filterMap fun a => if a = L ∨ (g.get? a).isSome = true then none else (h.get? a).map fun o => (a, o)
def rest (g h : Heap) (L d : Addr) : List (Addr × Obj) := (allNews g h L).filter fun p => decide (p.1 ≠ d)
end L2

namespace L2
open PySem PySem.Spec PyProof.Rows

/-- the module's facts, over the base: the heap at the law's entry without what is tracked there -/
structure Mod (K : PySem.W.Frag) (mg : Str → Option Value) (base : Heap) : Prop where
  kin : K.In base
  glob : base.Ns mainGlobals mg
  blt : ∃ mb, base.Ns builtinsNs mb ∧ ∀ x : Str, x ≠ "__name__" → mb x = bootBuiltins x
  nolimit : base.NoLimit

/-- the context: a def's body (or a comprehension's block) running. base: fixed through the whole law; s₀, H₀: the entry; outer: the frames whose slots others may change (a def's callers); stack: all frames that run;
   ex: iterators that were made ahead of the entry and are walked here (a comprehension's); fn: the names whose cells were made at the entry (a def: all; a comprehension's block: its own); calm: not within an except suite; pn: pins that every state bears; xe: what is wanted of an exception that leaves the code -/
structure Cx where
  prog : Program
  w : World
  K : PySem.W.Frag
  mg : Str → Option Value
  base : Heap
  A : Around
  N : List Str
  s₀ : Shared
  H₀ : Hp
  env : Env
  outer : List Env
  stack : List Env
  ex : List Addr
  fn : Str → Bool
  calm : Bool
  pn : List (Addr × Obj)
  xe : Value → Shared → Prop
/-- the callers' frames -/
def frs (l : List Env) : List Addr := l.filterMap (·.frame)
abbrev Cx.fs (X : Cx) : List Addr := frs X.outer

def Vis (sc : Scope) (x : Str) : Prop := sc.names.lookup x = some .local ∨ sc.names.lookup x = some .cell ∨ sc.names.lookup x = some .free
def Loc (sc : Scope) (x : Str) : Prop := sc.names.lookup x = some .local ∨ sc.names.lookup x = some .cell
def Look (env : Env) (h : Heap) (m : Str → Option Value) (x : Str) (u : Value) : Prop :=
  (env.kindOf x = some .local ∧ m x = some u) ∨ ((env.kindOf x = some .cell ∨ env.kindOf x = some .free) ∧ ∃ c, env.cells.lookup x = some c ∧ h.IsCell c (some u))

structure Cx.Ok (X : Cx) : Prop where
  mod : Mod X.K X.mg X.base
  kind : X.env.scope.kind = .function
  glob : X.env.globals = mainGlobals
  blt : X.env.builtins = builtinsNs
  above : X.s₀.heap.objs.size ≤ X.env.locals
  inj : ∀ x y c, X.env.cells.lookup x = some c → X.env.cells.lookup y = some c → x = y
  has : ∀ x, (X.env.kindOf x = some .cell ∨ X.env.kindOf x = some .free) → ∃ c, X.env.cells.lookup x = some c
  cab : ∀ x c, X.fn x = true → X.env.cells.lookup x = some c → X.s₀.heap.objs.size ≤ c
  hd : X.calm = true → X.A.handled = none
  frames : X.A.frames = some X.stack
  stk : X.stack = X.outer ∨ (X.stack = X.env :: X.outer ∧ X.env.frame = some X.env.locals)
  exf : ∀ b ∈ X.ex, b ≠ X.env.locals ∧ ∀ x c, X.env.cells.lookup x = some c → c ≠ b
  bs : ∀ b o, X.base.get? b = some o → X.s₀.heap.get? b = some o ∧ X.H₀ b = none
  bsz : X.base.objs.size ≤ X.s₀.heap.objs.size
  noex : ∀ b o, X.base.get? b = some o → b ∉ X.ex
  exfs : ∀ b ∈ X.ex, b ∉ X.fs
  funs : X.s₀.heap.FunFrames X.base X.outer
  frf : ∀ b ∈ X.fs, X.H₀ b = none

structure Inv (X : Cx) (pins : List (Addr × Obj)) (σ : List (Option V)) (H : Hp) (s : Shared) : Prop where
  ok : X.Ok
  os : s.os = X.s₀.os
  bare : AllBare s.gens
  base : Un X.fs X.ex X.H₀ H X.s₀.heap s.heap
  loc : ∃ m, s.heap.Ns X.env.locals m ∧ ∀ (i : Nat) (x : Str) (v : V), X.N[i]? = some x → σ[i]? = some (some v) → Vis X.env.scope x → ∃ u, RelV v u ∧ Look X.env s.heap m x u
  cell : ∀ x c, X.env.cells.lookup x = some c → ∃ v, s.heap.IsCell c v
  free : H X.env.locals = none
  freeC : ∀ x c, X.env.cells.lookup x = some c → H c = none
  pin : ∀ p ∈ X.pn ++ pins, s.heap.get? p.1 = some p.2 ∧ H p.1 = none ∧ p.1 ≠ X.env.locals ∧ p.1 ∉ X.fs ∧ ∀ v, p.2.data ≠ .cell v
  hok : HOk X.prog X.w H s.heap
  len : σ.length = X.N.length

section
variable {X : Cx} {pins : List (Addr × Obj)} {σ : List (Option V)} {H H' : Hp} {s : Shared} {h' : Heap}

theorem Cx.Ok.nofr (ok : X.Ok) {b : Addr} {o : Obj} (e : X.base.get? b = some o) : b ∉ X.fs := fun hb => by
  have := (ok.funs.mem hb).1
  rw [e] at this; cases this
theorem Inv.bs (I : Inv X pins σ H s) : ∀ b o, X.base.get? b = some o → s.heap.get? b = some o ∧ H b = none := fun b o e =>
  ⟨I.base.keep b o (I.ok.bs b o e).1 (I.ok.bs b o e).2 (I.ok.nofr e) (I.ok.noex b o e), I.base.free b o (I.ok.bs b o e).1 (I.ok.bs b o e).2 (I.ok.noex b o e)⟩
theorem Inv.bk (I : Inv X pins σ H s) : ∀ b o, X.base.get? b = some o → s.heap.get? b = some o := fun b o e => (I.bs b o e).1
theorem Inv.mod (I : Inv X pins σ H s) : Mod X.K X.mg X.base := I.ok.mod
theorem Inv.kIn (I : Inv X pins σ H s) : X.K.In s.heap := I.ok.mod.kin.keeps I.bk
theorem Inv.nolimit (I : Inv X pins σ H s) : s.heap.NoLimit := I.ok.mod.nolimit.keeps I.bk
theorem Inv.lt (I : Inv X pins σ H s) : X.env.locals < s.heap.objs.size := let ⟨_, hn, _⟩ := I.loc; hn.lt
theorem Inv.sz (I : Inv X pins σ H s) : X.s₀.heap.objs.size ≤ s.heap.objs.size := Nat.le_trans I.ok.above (Nat.le_of_lt I.lt)
theorem Inv.nofs (I : Inv X pins σ H s) {a : Addr} (h : s.heap.objs.size ≤ a) : a ∉ X.fs := fun hb => by
  obtain ⟨_, o, ho, _⟩ := I.ok.funs.mem hb
  exact absurd (Nat.lt_of_lt_of_le (Heap.lt_size ho) (Nat.le_trans I.sz h)) (Nat.lt_irrefl _)
theorem Inv.cne (I : Inv X pins σ H s) : ∀ x c, X.env.cells.lookup x = some c → c ≠ X.env.locals := fun x c e z => by
  obtain ⟨v, o, ho, hd⟩ := I.cell x c e
  obtain ⟨m, ⟨o', es, ep, ho', hd', _⟩, _⟩ := I.loc
  rw [z, ho'] at ho; cases ho; rw [hd'] at hd; cases hd
theorem Inv.funs (I : Inv X pins σ H s) : s.heap.FunFrames X.base X.outer := by
  have all : ∀ (l : List Env), (∀ b ∈ frs l, b ∈ X.fs) → X.s₀.heap.FunFrames X.base l → s.heap.FunFrames X.base l := by
    intro l
    induction l with
    | nil => intro _ _; trivial
    | cons env r ih =>
      intro hs hl
      obtain ⟨hk, ⟨L, o, hf, hn, ho, hd⟩, hr⟩ := hl
      have hL : L ∈ X.fs := hs L (by unfold frs; rw [List.filterMap_cons, hf]; exact List.mem_cons_self)
      obtain ⟨sl, e⟩ := I.base.slot L o ho (I.ok.frf L hL) hL fun z => I.ok.exfs L z hL
      exact ⟨hk, ⟨L, _, hf, hn, e, hd⟩, ih (fun b hb => hs b (by unfold frs; rw [List.filterMap_cons, hf]; exact List.mem_cons_of_mem _ hb)) hr⟩
  exact all X.outer (fun _ hb => hb) I.ok.funs

/-- the frames that run, for a call -/
theorem Inv.stack (I : Inv X pins σ H s) : s.heap.FunFrames X.base X.stack := by
  rcases I.ok.stk with e | ⟨e, hf⟩
  · rw [e]; exact I.funs
  · rw [e]
    obtain ⟨m, hn, _⟩ := I.loc
    refine .cons (by rw [I.ok.kind]; decide) hf hn ?_ I.funs
    exact Heap.get?_none_of_le (Nat.le_trans I.ok.bsz I.ok.above)
theorem Inv.stkSub (I : Inv X pins σ H s) : ∀ b ∈ frs X.stack, b ∈ X.env.locals :: X.fs := fun b hb => by
  rcases I.ok.stk with e | ⟨e, hf⟩
  · rw [e] at hb; exact List.mem_cons_of_mem _ hb
  · rw [e] at hb
    unfold frs at hb
    rw [List.filterMap_cons, hf] at hb
    exact hb
theorem Inv.stkFree (I : Inv X pins σ H s) : ∀ b ∈ frs X.stack, H b = none := fun b hb => by
  rcases List.mem_cons.mp (I.stkSub b hb) with e | hb
  · rw [e]; exact I.free
  · obtain ⟨_, o, ho, _⟩ := I.ok.funs.mem hb
    exact I.base.free b o ho (I.ok.frf b hb) fun z => I.ok.exfs b z hb

/-- THE STEP: the untracked objects but the frame and the records at ch are kept (the callers' frames up to slots), the frame's map is kept, the new abstract heap is held -/
theorem Inv.step {g' : Array GenState} {t' : Nat} {d' : Drawn} {ch : List Addr} (I : Inv X pins σ H s)
    (hch : ∀ b ∈ ch, (b ∈ X.ex ∨ X.s₀.heap.objs.size ≤ b) ∧ b ≠ X.env.locals ∧ (∀ x c, X.env.cells.lookup x = some c → c ≠ b) ∧ ∀ p ∈ X.pn ++ pins, p.1 ≠ b)
    (keep : ∀ b o, b ≠ X.env.locals → b ∉ X.fs → b ∉ ch → s.heap.get? b = some o → H b = none → h'.get? b = some o)
    (slot : ∀ b o, b ≠ X.env.locals → b ∈ X.fs → b ∉ ch → s.heap.get? b = some o → H b = none → ∃ sl, h'.get? b = some { o with slots := sl }) (free : ∀ b o, b ∉ ch → s.heap.get? b = some o → H b = none → H' b = none)
    (there : ∀ b o, b ∉ ch → s.heap.get? b = some o → ∃ o', h'.get? b = some o')
    (tups : ∀ b xs, H b = some (.tup xs) → H' b = some (.tup xs)) (frzs : ∀ b o u, H b = some (.frz o u) → H' b = some (.frz o u)) (tbls : ∀ b ps, H b = some (.tbl ps) → ∃ more, H' b = some (.tbl (ps ++ more)))
    (ns : ∀ m, s.heap.Ns X.env.locals m → h'.Ns X.env.locals m) (hok : HOk X.prog X.w H' h') (hg : AllBare g') :
    Inv X pins σ H' { s with heap := h', gens := g', drawn := d', toks := t' } := by
  have neL : ∀ b o, X.s₀.heap.get? b = some o → b ≠ X.env.locals := fun b o e => Nat.ne_of_lt (Nat.lt_of_lt_of_le (Heap.lt_size e) I.ok.above)
  have neC : ∀ b o, X.s₀.heap.get? b = some o → b ∉ X.ex → b ∉ ch := fun b o e hx hb => by
    rcases (hch b hb).1 with z | z
    · exact hx z
    · exact absurd (Nat.lt_of_lt_of_le (Heap.lt_size e) z) (Nat.lt_irrefl _)
  have cellK : ∀ x c, X.env.cells.lookup x = some c → ∀ v, s.heap.IsCell c v → h'.IsCell c v := fun x c e v ⟨o, ho, hd⟩ => by
    have nch : c ∉ ch := fun z => (hch c z).2.2.1 x c e rfl
    by_cases hc : c ∈ X.fs
    · obtain ⟨sl, q⟩ := slot c o (I.cne x c e) hc nch ho (I.freeC x c e)
      exact ⟨_, q, hd⟩
    · exact ⟨o, keep c o (I.cne x c e) hc nch ho (I.freeC x c e), hd⟩
  refine ⟨I.ok, I.os, hg, ⟨fun b o e n hb hx => ?_, fun b o e n hb hx => ?_, fun b o e n hx => ?_, fun b o e hx => ?_, fun b xs e => tups b xs (I.base.tups b xs e), fun b o xs e => frzs b o xs (I.base.frzs b o xs e), fun b ps e => ?_⟩, ?_, fun x c e => ?_, ?_, fun x c e => ?_, fun p hp => ?_, hok, I.len⟩
  · exact keep b o (neL b o e) hb (neC b o e hx) (I.base.keep b o e n hb hx) (I.base.free b o e n hx)
  · obtain ⟨sl, e1⟩ := I.base.slot b o e n hb hx
    obtain ⟨sl', e2⟩ := slot b _ (neL b o e) hb (neC b o e hx) e1 (I.base.free b o e n hx)
    exact ⟨sl', e2⟩
  · obtain ⟨o', e1⟩ := I.base.there b o e hx
    exact free b o' (neC b o e hx) e1 (I.base.free b o e n hx)
  · obtain ⟨o', e1⟩ := I.base.there b o e hx
    exact there b o' (neC b o e hx) e1
  · obtain ⟨m1, e1⟩ := I.base.tbls b ps e
    obtain ⟨m2, e2⟩ := tbls b _ e1
    exact ⟨m1 ++ m2, by rw [e2, Array.append_assoc]⟩
  · obtain ⟨m, hn, hl⟩ := I.loc
    refine ⟨m, ns m hn, fun i x v e1 e2 e3 => ?_⟩
    obtain ⟨u, r, l⟩ := hl i x v e1 e2 e3
    refine ⟨u, r, ?_⟩
    rcases l with l | ⟨k, c, e, z⟩
    · exact .inl l
    · exact .inr ⟨k, c, e, cellK x c e _ z⟩
  · obtain ⟨v, z⟩ := I.cell x c e
    exact ⟨v, cellK x c e v z⟩
  · obtain ⟨m, ⟨o, _, _, ho, _⟩, _⟩ := I.loc
    exact free _ o (fun z => (hch _ z).2.1 rfl) ho I.free
  · obtain ⟨v, o, ho, hd⟩ := I.cell x c e
    exact free c o (fun z => (hch c z).2.2.1 x c e rfl) ho (I.freeC x c e)
  · obtain ⟨e, n, ne, nf, d⟩ := I.pin p hp
    have nch : p.1 ∉ ch := fun z => (hch p.1 z).2.2.2 p hp rfl
    exact ⟨keep p.1 p.2 ne nf nch e n, free p.1 p.2 nch e n, ne, nf, d⟩
/-- .. where the frame's own object is kept too -/
theorem Inv.un {t' : Nat} (I : Inv X pins σ H s) (u : Un X.fs [] H H' s.heap h') (hok : HOk X.prog X.w H' h') : Inv X pins σ H' { s with heap := h', toks := t' } := by
  obtain ⟨m, ⟨o, es, ep, ho, r⟩, _⟩ := id I.loc
  obtain ⟨sl, hL⟩ := u.any ho I.free (by simp)
  exact I.step (g' := s.gens) (d' := s.drawn) (ch := []) (fun _ z => nomatch z) (fun b o _ hb _ e n => u.keep b o e n hb (by simp)) (fun b o _ hb _ e n => u.slot b o e n hb (by simp)) (fun b o _ e n => u.free b o e n (by simp)) (fun b o _ e => u.there b o e (by simp)) u.tups u.frzs u.tbls (fun m' hm => by
    obtain ⟨o', es', ep', ho', r'⟩ := hm
    rw [ho] at ho'; cases ho'
    exact ⟨_, es', ep', hL, r'⟩) hok I.bare
/-- behind a call (or a comprehension's block): the slots of this frame may have changed too, the records at ch may have turned -/
theorem Inv.call {g' : Array GenState} {t' : Nat} {d' : Drawn} {ch : List Addr} (I : Inv X pins σ H s) (u : Un (frs X.stack) ch H H' s.heap h') (hok : HOk X.prog X.w H' h') (hg : AllBare g')
    (hch : ∀ b ∈ ch, (b ∈ X.ex ∨ X.s₀.heap.objs.size ≤ b) ∧ b ≠ X.env.locals ∧ (∀ x c, X.env.cells.lookup x = some c → c ≠ b) ∧ ∀ p ∈ X.pn ++ pins, p.1 ≠ b) :
    Inv X pins σ H' { s with heap := h', gens := g', drawn := d', toks := t' } := by
  obtain ⟨m, ⟨o, es, ep, ho, r⟩, _⟩ := id I.loc
  obtain ⟨sl, hL⟩ := u.any ho I.free fun z => (hch _ z).2.1 rfl
  exact I.step (ch := ch) hch (fun b o hL hb hc e n => u.keep b o e n (fun z => (List.mem_cons.mp (I.stkSub b z)).elim hL hb) hc) (fun b o _ _ hc e n => u.any e n hc) (fun b o hc e n => u.free b o e n hc) (fun b o hc e => u.there b o e hc) u.tups u.frzs u.tbls (fun m' hm => by
    obtain ⟨o', es', ep', ho', r'⟩ := hm
    rw [ho] at ho'; cases ho'
    exact ⟨_, es', ep', hL, r'⟩) hok hg
/-- an untracked record of ours (an iterator) has turned -/
theorem Inv.turned {t' : Nat} {it : Addr} (I : Inv X pins σ H s) (k : ∀ b o, b ≠ it → s.heap.get? b = some o → h'.get? b = some o) (hn : H it = none) (hL : it ≠ X.env.locals)
    (h1 : it ∈ X.ex ∨ X.s₀.heap.objs.size ≤ it) (h2 : ∀ x c, X.env.cells.lookup x = some c → c ≠ it) (h3 : ∀ p ∈ X.pn ++ pins, p.1 ≠ it) : Inv X pins σ H { s with heap := h', toks := t' } := by
  have nit : ∀ b u, H b = some u → b ≠ it := fun b u e z => by rw [z, hn] at e; cases e
  refine I.step (g' := s.gens) (d' := s.drawn) (ch := [it]) (fun b hb => ?_) (fun b o _ _ hc e _ => k b o (fun z => hc (by simp [z])) e) (fun b o _ _ hc e _ => ⟨o.slots, k b o (fun z => hc (by simp [z])) e⟩) (fun _ _ _ _ n => n)
    (fun b o hc e => ⟨o, k b o (fun z => hc (by simp [z])) e⟩) (fun _ _ e => e) (fun _ _ _ e => e) (fun b ps e => ⟨#[], by rw [e]; simp⟩) (fun m hm => ?_) (fun b u e => ?_) I.bare
  · have e : b = it := by simpa using hb
    subst e
    exact ⟨h1, hL, h2, h3⟩
  · obtain ⟨o, es, ep, ho, r⟩ := hm
    exact ⟨o, es, ep, k _ o (Ne.symm hL) ho, r⟩
  · refine (I.hok b u e).stay (fun c v hc q => k c v ?_ q) (fun _ q => q) fun _ _ q => q
    rcases hc with z | z
    · rw [z]; exact nit b u e
    · exact nit c _ z
theorem Inv.tok (I : Inv X pins σ H s) (t : Nat) : Inv X pins σ H { s with toks := t } := I.un (h' := s.heap) (t' := t) Un.refl I.hok
/-- all objects kept -/
theorem Inv.kept {t' : Nat} (I : Inv X pins σ H s) (k : ∀ b u, s.heap.get? b = some u → h'.get? b = some u) : Inv X pins σ H { s with heap := h', toks := t' } := I.un (Un.kept k) (I.hok.kept k)
/-- a new object laid and tracked -/
theorem Inv.laid {a : Addr} {o : HO} {t' : Nat} (I : Inv X pins σ H s) (k : ∀ b u, s.heap.get? b = some u → h'.get? b = some u) (hp : s.heap.objs.size ≤ a) (new : ObjOk X.prog X.w (upd H a o) h' a o) :
    Inv X pins σ (upd H a o) { s with heap := h', toks := t' } := I.un (Un.laid k hp (I.hok.fresh hp)) (I.hok.laid k hp new)
/-- an object written -/
theorem Inv.write {x e : Addr} {o : HO} {t' : Nat} (I : Inv X pins σ H s) (mu : Mut (H x)) (he : e = x ∨ H e = some (.own x)) (k : ∀ b u, b ≠ e → s.heap.get? b = some u → h'.get? b = some u) (heo : ∃ u, h'.get? e = some u)
    (new : ObjOk X.prog X.w (upd H x o) h' x o) : Inv X pins σ (upd H x o) { s with heap := h', toks := t' } := I.un (Un.write mu he k heo) (I.hok.write mu he k heo new)
/-- forgetting slots, pins -/
theorem Inv.weak {σ' : List (Option V)} (I : Inv X pins σ H s) (hl : σ'.length = σ.length) (w : ∀ (i : Nat) v, σ'[i]? = some (some v) → σ[i]? = some (some v)) : Inv X pins σ' H s :=
  ⟨I.ok, I.os, I.bare, I.base, let ⟨m, hn, hl'⟩ := I.loc; ⟨m, hn, fun i x v e1 e2 e3 => hl' i x v e1 (w i v e2) e3⟩, I.cell, I.free, I.freeC, I.pin, I.hok, hl.trans I.len⟩
theorem Inv.pins_of {pins' : List (Addr × Obj)} (I : Inv X pins σ H s) (h : ∀ p ∈ pins', s.heap.get? p.1 = some p.2 ∧ H p.1 = none ∧ p.1 ≠ X.env.locals ∧ p.1 ∉ X.fs ∧ ∀ v, p.2.data ≠ .cell v) : Inv X pins' σ H s :=
  ⟨I.ok, I.os, I.bare, I.base, I.loc, I.cell, I.free, I.freeC, fun p hp => (List.mem_append.mp hp).elim (fun z => I.pin p (List.mem_append_left _ z)) (h p), I.hok, I.len⟩

theorem nodup_ix {N : List Str} (hN : N.Nodup) {i j : Nat} {x : Str} (a : N[i]? = some x) (b : N[j]? = some x) : i = j := by
  obtain ⟨h1, e1⟩ := List.getElem?_eq_some_iff.mp a
  obtain ⟨h2, e2⟩ := List.getElem?_eq_some_iff.mp b
  exact (List.getElem_inj hN).mp (e1.trans e2.symm)

/-- a name is stored; what changed -/
theorem store_ok2 {M : Model} {A : Around} {E : Value → Shared → Prop} {i : Nat} {x : Str} {v : V} {u : Value} {Q : Unit → Shared → Prop} (I : Inv X pins σ H s) (hN : X.N.Nodup) (hi : X.N[i]? = some x) (hx : Loc X.env.scope x) (r : RelV v u)
    (h : ∀ s', Inv X pins (σ.set i (some v)) H s' → (∃ a, Heap.SameBut a s.heap s'.heap ∧ (a = X.env.locals ∨ X.env.cells.lookup x = some a)) → Q () s') (hf : X.fn x = true ∨ X.env.scope.names.lookup x = some .local := by first | exact .inl rfl | exact .inr rfl | assumption) : wpAny M A (storeName X.env x u) Q E s := by
  obtain ⟨m, hn, hl⟩ := id I.loc
  have hcls : (X.env.scope.kind == .class || (X.env.scope.kind == .module && X.env.locals != X.env.globals)) = false := by rw [I.ok.kind]; rfl
  have hiσ : i < σ.length := by rw [I.len]; exact (List.getElem?_eq_some_iff.mp hi).1
  have cne := I.cne
  have tracked : ∀ {a : Addr} {h' : Heap}, (∃ o, s.heap.get? a = some o ∧ H a = none) → Heap.SameBut a s.heap h' → HOk X.prog X.w H h' := fun {a h'} ha hs b ob e => by
    obtain ⟨_, _, hfree⟩ := ha
    refine (I.hok b ob e).stay (fun c w' hc q => (hs.2 c ?_).trans q) (fun _ q => q) fun _ _ q => q
    rintro rfl
    rcases hc with rfl | hc
    · rw [hfree] at e; cases e
    · rw [hfree] at hc; cases hc
  rcases hx with hk | hk
  · refine wpAny_storeName_local hk hn (fun h' hn' hs => ?_) hcls
    obtain ⟨oL, _, _, hoL, _⟩ := id hn
    refine h _ ⟨I.ok, I.os, I.bare, ⟨fun b o e n hb hx => ?_, fun b o e n hb hx => ?_, I.base.free, fun b o e hx => ?_, I.base.tups, I.base.frzs, I.base.tbls⟩, ⟨_, hn', fun j y v' e1 e2 e3 => ?_⟩, fun y c e => ?_, I.free, I.freeC, fun p hp => ?_, tracked ⟨oL, hoL, I.free⟩ hs, by simpa using I.len⟩ ⟨_, hs, .inl rfl⟩
    · exact (hs.2 b (Nat.ne_of_lt (Nat.lt_of_lt_of_le (Heap.lt_size e) I.ok.above))).trans (I.base.keep b o e n hb hx)
    · obtain ⟨sl, e1⟩ := I.base.slot b o e n hb hx
      exact ⟨sl, (hs.2 b (Nat.ne_of_lt (Nat.lt_of_lt_of_le (Heap.lt_size e) I.ok.above))).trans e1⟩
    · obtain ⟨o', e1⟩ := I.base.there b o e hx
      exact ⟨o', (hs.2 b (Nat.ne_of_lt (Nat.lt_of_lt_of_le (Heap.lt_size e) I.ok.above))).trans e1⟩
    · by_cases hj : j = i
      · subst hj
        rw [hi] at e1; cases e1
        rw [List.getElem?_set_self hiσ] at e2
        cases e2
        exact ⟨u, r, .inl ⟨hk, by simp⟩⟩
      · rw [List.getElem?_set_ne (Ne.symm hj)] at e2
        obtain ⟨u', r', q⟩ := hl j y v' e1 e2 e3
        refine ⟨u', r', ?_⟩
        rcases q with ⟨k, e⟩ | ⟨k, c, e, z⟩
        · refine .inl ⟨k, ?_⟩
          have : y ≠ x := fun e => hj (nodup_ix hN e1 (e ▸ hi))
          simp [this, e]
        · exact .inr ⟨k, c, e, z.sameBut hs (cne y c e)⟩
    · obtain ⟨w', z⟩ := I.cell y c e
      exact ⟨w', z.sameBut hs (cne y c e)⟩
    · obtain ⟨e, n, ne, nf, d⟩ := I.pin p hp
      exact ⟨(hs.2 p.1 ne).trans e, n, ne, nf, d⟩
  · have hfn : X.fn x = true := by
      rcases hf with z | z
      · exact z
      · rw [z] at hk; cases hk
    obtain ⟨c, hc⟩ := I.ok.has x (.inl hk)
    obtain ⟨w', z⟩ := I.cell x c hc
    refine wpAny_storeName_cell I.ok.kind hk hc z (fun h' hc' hs => ?_)
    obtain ⟨oc, hoc, hocd⟩ := id z
    refine h { s with heap := h' } ⟨I.ok, I.os, I.bare, ⟨fun b o e n hb hx => ?_, fun b o e n hb hx => ?_, I.base.free, fun b o e hx => ?_, I.base.tups, I.base.frzs, I.base.tbls⟩, ⟨m, hn.sameBut hs (Ne.symm (cne x c hc)), fun j y v' e1 e2 e3 => ?_⟩, fun y c' e => ?_, I.free, I.freeC, fun p hp => ?_, tracked ⟨oc, hoc, I.freeC x c hc⟩ hs, by simpa using I.len⟩ ⟨c, hs, .inr hc⟩
    · exact (hs.2 b (Nat.ne_of_lt (Nat.lt_of_lt_of_le (Heap.lt_size e) (I.ok.cab x c hfn hc)))).trans (I.base.keep b o e n hb hx)
    · obtain ⟨sl, e1⟩ := I.base.slot b o e n hb hx
      exact ⟨sl, (hs.2 b (Nat.ne_of_lt (Nat.lt_of_lt_of_le (Heap.lt_size e) (I.ok.cab x c hfn hc)))).trans e1⟩
    · obtain ⟨o', e1⟩ := I.base.there b o e hx
      exact ⟨o', (hs.2 b (Nat.ne_of_lt (Nat.lt_of_lt_of_le (Heap.lt_size e) (I.ok.cab x c hfn hc)))).trans e1⟩
    · by_cases hj : j = i
      · subst hj
        rw [hi] at e1; cases e1
        rw [List.getElem?_set_self hiσ] at e2
        cases e2
        exact ⟨u, r, .inr ⟨.inl hk, c, hc, hc'⟩⟩
      · rw [List.getElem?_set_ne (Ne.symm hj)] at e2
        obtain ⟨u', r', q⟩ := hl j y v' e1 e2 e3
        refine ⟨u', r', ?_⟩
        rcases q with q | ⟨k, c', e, z'⟩
        · exact .inl q
        · refine .inr ⟨k, c', e, z'.sameBut hs ?_⟩
          rintro rfl
          exact hj (nodup_ix hN e1 (I.ok.inj _ _ _ e hc ▸ hi))
    · by_cases hcc : c' = c
      · subst hcc; exact ⟨_, hc'⟩
      · obtain ⟨w2, z2⟩ := I.cell y c' e
        exact ⟨w2, z2.sameBut hs hcc⟩
    · obtain ⟨e, n, ne, nf, d⟩ := I.pin p hp
      refine ⟨(hs.2 p.1 ?_).trans e, n, ne, nf, d⟩
      intro q
      rw [q, hoc] at e
      have q' : oc = p.2 := Option.some.inj e
      exact d w' (by rw [← q']; exact hocd)
theorem store_ok {M : Model} {A : Around} {E : Value → Shared → Prop} {i : Nat} {x : Str} {v : V} {u : Value} {Q : Unit → Shared → Prop} (I : Inv X pins σ H s) (hN : X.N.Nodup) (hi : X.N[i]? = some x) (hx : Loc X.env.scope x) (r : RelV v u)
    (h : ∀ s', Inv X pins (σ.set i (some v)) H s' → Q () s') (hf : X.fn x = true ∨ X.env.scope.names.lookup x = some .local := by first | exact .inl rfl | exact .inr rfl | assumption) : wpAny M A (storeName X.env x u) Q E s :=
  store_ok2 I hN hi hx r (fun s' I' _ => h s' I') hf
/-- behind a call or a block, the state as it is -/
theorem Inv.call' {s' : Shared} {ch : List Addr} (I : Inv X pins σ H s) (ho : s'.os = s.os) (u : Un (frs X.stack) ch H H' s.heap s'.heap) (hok : HOk X.prog X.w H' s'.heap) (hg : AllBare s'.gens)
    (hch : ∀ b ∈ ch, (b ∈ X.ex ∨ X.s₀.heap.objs.size ≤ b) ∧ b ≠ X.env.locals ∧ (∀ x c, X.env.cells.lookup x = some c → c ≠ b) ∧ ∀ p ∈ X.pn ++ pins, p.1 ≠ b) : Inv X pins σ H' s' := by
  obtain ⟨h', g', d', t', o'⟩ := s'
  have e : o' = s.os := ho
  subst e
  exact I.call (g' := g') (t' := t') (d' := d') u hok hg hch
end

/-! ### the judgements -/
/-- an exception: its class, its own dict's address (where it has one), the abstract heap behind it -/
abbrev XK := Value → Option Addr → Hp → Prop
abbrev St := List (Option V)
abbrev VK := V → Hp → Prop
/-- an expression's reading; a test's; an argument list's -/
abbrev TE := St → Hp → VK → Prop
abbrev TT := St → Hp → (Bool → Hp → Prop) → Prop
abbrev TA := St → Hp → (List V → Hp → Prop) → Prop
/-- what is wanted behind a statement -/
structure Ends where
  nx : St → Hp → Prop
  rt : VK
  bk : St → Hp → Prop := fun _ _ => False
  ct : St → Hp → Prop := fun _ _ => False
abbrev TS := Ends → St → Hp → Prop

def EP (X : Cx) (pins : List (Addr × Obj)) (σ : St) (Q : VK) (u : Value) (s' : Shared) : Prop := ∃ v H', Inv X pins σ H' s' ∧ RelV v u ∧ Q v H'
def TP (X : Cx) (pins : List (Addr × Obj)) (σ : St) (Q : Bool → Hp → Prop) (b : Bool) (s' : Shared) : Prop := ∃ H', Inv X pins σ H' s' ∧ Q b H'
def AP (X : Cx) (pins : List (Addr × Obj)) (σ : St) (Q : List V → Hp → Prop) (us : List Value) (s' : Shared) : Prop := ∃ vs H', Inv X pins σ H' s' ∧ Vals vs us ∧ Q vs H'
def SP (X : Cx) (pins : List (Addr × Obj)) (D : Ends) (f : Flow) (s' : Shared) : Prop :=
  match f with
  | .next => ∃ σ' H', Inv X pins σ' H' s' ∧ D.nx σ' H'
  | .brk => ∃ σ' H', Inv X pins σ' H' s' ∧ D.bk σ' H'
  | .cont => ∃ σ' H', Inv X pins σ' H' s' ∧ D.ct σ' H'
  | .ret u => ∃ v σ' H', Inv X pins σ' H' s' ∧ RelV v u ∧ D.rt v H'

def PE (X : Cx) (e : Expr) (t : TE) : Prop :=
  ∀ (pins : List (Addr × Obj)) (s : Shared) (σ : St) (H : Hp) (Q : VK), Inv X pins σ H s → t σ H Q → wpAny (model X.prog X.w) X.A (eval e X.env) (EP X pins σ Q) X.xe s
def PT (X : Cx) (e : Expr) (t : TT) : Prop :=
  ∀ (pins : List (Addr × Obj)) (s : Shared) (σ : St) (H : Hp) (Q : Bool → Hp → Prop), Inv X pins σ H s → t σ H Q → wpAny (model X.prog X.w) X.A (isTrue e X.env (eval e X.env)) (TP X pins σ Q) X.xe s
/-- a test whatever its 'whole' is (and, or) -/
def PW (X : Cx) (e : Expr) (t : TT) : Prop :=
  ∀ (whole : Sem Value) (pins : List (Addr × Obj)) (s : Shared) (σ : St) (H : Hp) (Q : Bool → Hp → Prop), Inv X pins σ H s → t σ H Q → wpAny (model X.prog X.w) X.A (isTrue e X.env whole) (TP X pins σ Q) X.xe s
theorem PW.pt {X : Cx} {e : Expr} {t : TT} (h : PW X e t) : PT X e t := h _
/-- an argument list (no star), from the left -/
def PA (X : Cx) (es : List Expr) (t : TA) : Prop :=
  ∀ (pos : Pos) (pins : List (Addr × Obj)) (s : Shared) (σ : St) (H : Hp) (Q : List V → Hp → Prop), Inv X pins σ H s → t σ H Q → wpAny (model X.prog X.w) X.A (spliced (backTo pos (starEach es X.env))) (AP X pins σ Q) X.xe s
def PS (X : Cx) (st : Stmt) (t : TS) : Prop :=
  ∀ (pins : List (Addr × Obj)) (s : Shared) (σ : St) (H : Hp) (D : Ends), Inv X pins σ H s → t D σ H → wpAny (model X.prog X.w) X.A (exec st X.env) (SP X pins D) X.xe s
def PSs (X : Cx) (st : List Stmt) (t : TS) : Prop :=
  ∀ (pins : List (Addr × Obj)) (s : Shared) (σ : St) (H : Hp) (D : Ends), Inv X pins σ H s → t D σ H → wpAny (model X.prog X.w) X.A (execs st X.env) (SP X pins D) X.xe s
/-- weaken the end -/
theorem thn {α : Type} {t : Sem α} {Q Q' : α → Shared → Prop} {M : Model} {A : Around} {E : Value → Shared → Prop} {s : Shared} (h : wpAny M A t Q E s) (hQ : ∀ a s, Q a s → Q' a s) : wpAny M A t Q' E s := wpAny_mono h hQ fun _ _ x => x
end L2

namespace L2
open PySem PySem.Spec PyProof.Rows
section
variable {X : Cx}

/-! ### names and constants -/
def tVar (i : Nat) : TE := fun σ H Q => ∃ v, σ[i]? = some (some v) ∧ Q v H
def tC (v : V) : TE := fun _ H Q => Q v H
theorem pe_var {i : Nat} {x : Str} {pos : Pos} (hN : X.N[i]? = some x) (hv : Vis X.env.scope x) (hd : (x == ("__debug__" : Str)) = false := by decide) (hcd : (x == ("__classdict__" : Str)) = false := by decide) : PE X (.Name x pos) (tVar i) := by
  intro pins s σ H Q I h
  obtain ⟨v, e, h⟩ := h
  obtain ⟨m, hn, hl⟩ := I.loc
  obtain ⟨u, r, l⟩ := hl i x v hN e hv
  have fin : EP X pins σ Q u s := ⟨v, H, I, r, h⟩
  rcases l with ⟨hk, hm⟩ | ⟨hk, c, hc, hcell⟩
  · exact wpAny_Name (wpAny_loadName_local I.ok.kind hk hn hm fin) hd
  · rcases hk with hk | hk
    · exact wpAny_Name (wpAny_loadName_cell I.ok.kind hk hc hcell fin) hd
    · exact wpAny_Name (wpAny_loadName_free I.ok.kind hk hc hcell fin hcd) hd
theorem pe_int {i j pos} : PE X (.Constant (.int i) j pos) (tC (.int i)) := fun _ _ _ H _ I h => wpAny_Constant_int ⟨.int i, H, I.tok _, ⟨_, rfl⟩, h⟩
theorem pe_bl {b j pos} : PE X (.Constant (.bool b) j pos) (tC (.bl b)) := fun _ _ _ H _ I h => Constant_bool ⟨.bl b, H, I, rfl, h⟩
theorem pe_non {j pos} : PE X (.Constant .none j pos) (tC .non) := fun _ _ _ H _ I h => Constant_none ⟨.non, H, I, rfl, h⟩
theorem pe_str {x j pos} : PE X (.Constant (.str x) j pos) (tC (.str x)) := fun _ _ _ H _ I h => Calls.Constant_str ⟨.str x, H, I.tok _, ⟨_, rfl⟩, h⟩

/-- a global name of the def -/
def Gl (X : Cx) (x : Str) : Prop := X.env.kindOf x = some .globalImplicit
theorem ld_glob {E : Value → Shared → Prop} {pins : List (Addr × Obj)} {s : Shared} {σ : St} {H : Hp} {x : Str} {u : Value} {pos : Pos} {Q : Value → Shared → Prop} (I : Inv X pins σ H s) (hg : Gl X x) (hm : X.mg x = some u) (h : Q u s)
    (hd : (x == ("__debug__" : Str)) = false := by decide) : wpAny (model X.prog X.w) X.A (eval (.Name x pos) X.env) Q E s :=
  Calls.Name_function_global I.ok.kind hg (Calls.loadGlobal_global (by rw [I.ok.glob]; exact I.mod.glob.keeps I.bk) hm h) hd
theorem ld_blt {E : Value → Shared → Prop} {pins : List (Addr × Obj)} {s : Shared} {σ : St} {H : Hp} {x : Str} {u : Value} {pos : Pos} {Q : Value → Shared → Prop} (I : Inv X pins σ H s) (hg : Gl X x) (hm : X.mg x = none) (hv : bootBuiltins x = some u) (h : Q u s)
    (hn : x ≠ "__name__" := by decide) (hd : (x == ("__debug__" : Str)) = false := by decide) : wpAny (model X.prog X.w) X.A (eval (.Name x pos) X.env) Q E s := by
  obtain ⟨mb, h1, h2⟩ := I.mod.blt
  exact Calls.Name_function_global I.ok.kind hg (Calls.loadGlobal_builtin (by rw [I.ok.glob]; exact I.mod.glob.keeps I.bk) hm (by rw [I.ok.blt]; exact h1.keeps I.bk) ((h2 x hn).trans hv) h) hd
/-- a module's constant, a class, a function, as a value -/
theorem pe_glob {x : Str} {v : V} {u : Value} {pos : Pos} (hg : Gl X x) (hm : X.mg x = some u) (r : RelV v u) (hd : (x == ("__debug__" : Str)) = false := by decide) : PE X (.Name x pos) (tC v) :=
  fun _ _ _ H _ I h => ld_glob I hg hm ⟨v, H, I, r, h⟩ hd
theorem pe_bltn {x : Str} {v : V} {u : Value} {pos : Pos} (hg : Gl X x) (hm : X.mg x = none) (hv : bootBuiltins x = some u) (r : RelV v u) (hn : x ≠ "__name__" := by decide) (hd : (x == ("__debug__" : Str)) = false := by decide) : PE X (.Name x pos) (tC v) :=
  fun _ _ _ H _ I h => ld_blt I hg hm hv ⟨v, H, I, r, h⟩ hn hd

/-! ### arithmetic -/
variable {a b : Expr} {ta tb : TE} {pos : Pos}
/-! ### comparisons -/
/-- a comparison as a value, as a test -/
def tB (t : TE) : TT := fun σ H Q => t σ H fun x H1 => ∃ c, x = .bl c ∧ Q c H1
/-- an expression whose value is a bool, as a test -/
theorem pt_val {e : Expr} {t : TE} (h : PE X e t) (he : ∀ whole, isTrue e X.env whole = (do let v ← whole; standAt e.pos; holding [v] (truthy v)) := by intro _; rfl) : PT X e (tB t) := by
  intro pins s σ H Q I hw
  refine isTrue_plain (thn (h pins s σ H _ I hw) fun v s1 ⟨x, H1, I1, r1, q1⟩ => ?_) (he _)
  obtain ⟨d, rfl, q⟩ := q1
  cases r1
  exact wpAny_truthy_bool ⟨H1, I1, q⟩

/-! ### and, or, not -/
variable {tA tB' : TT} {rest : List Expr}
def tAnd (t u : TT) : TT := fun σ H Q => t σ H fun c H1 => if c = true then u σ H1 Q else Q false H1
def tOr (t u : TT) : TT := fun σ H Q => t σ H fun c H1 => if c = true then Q true H1 else u σ H1 Q
def tNot (t : TT) : TT := fun σ H Q => t σ H fun c H1 => Q (!c) H1
theorem pw_and1 (ha : PT X a tA) : PW X (.BoolOp .And [a] pos) tA := by
  intro wh pins s σ H Q I h
  refine isTrue_and (thn (ha pins s σ H Q I h) fun c s1 e => ?_)
  cases c with
  | true => exact isTrue_and_nil e
  | false => exact e
theorem pw_or1 (ha : PT X a tA) : PW X (.BoolOp .Or [a] pos) tA := by
  intro wh pins s σ H Q I h
  refine isTrue_or (thn (ha pins s σ H Q I h) fun c s1 e => ?_)
  cases c with
  | false => exact isTrue_or_nil e
  | true => exact e
theorem pw_and (ha : PT X a tA) (hb : PW X (.BoolOp .And (b :: rest) pos) tB') : PW X (.BoolOp .And (a :: b :: rest) pos) (tAnd tA tB') := by
  intro wh pins s σ H Q I h
  refine isTrue_and (thn (ha pins s σ H _ I h) fun c s1 ⟨H1, I1, q1⟩ => ?_)
  cases c with
  | true => exact hb wh pins s1 σ H1 Q I1 q1
  | false => exact ⟨H1, I1, q1⟩
theorem pw_or (ha : PT X a tA) (hb : PW X (.BoolOp .Or (b :: rest) pos) tB') : PW X (.BoolOp .Or (a :: b :: rest) pos) (tOr tA tB') := by
  intro wh pins s σ H Q I h
  refine isTrue_or (thn (ha pins s σ H _ I h) fun c s1 ⟨H1, I1, q1⟩ => ?_)
  cases c with
  | true => exact ⟨H1, I1, q1⟩
  | false => exact hb wh pins s1 σ H1 Q I1 q1
theorem pt_not (ha : PT X a tA) : PT X (.UnaryOp .Not a pos) (tNot tA) := by
  intro pins s σ H Q I h
  exact isTrue_not (ha pins s σ H (fun c H1 => Q (!c) H1) I h)
/-- .. as values (bools) -/
def tAndV (ta tb : TE) : TE := fun σ H Q => ta σ H fun x H1 => ∃ c, x = .bl c ∧ if c = true then tb σ H1 Q else Q (.bl false) H1
def tOrV (ta tb : TE) : TE := fun σ H Q => ta σ H fun x H1 => ∃ c, x = .bl c ∧ if c = true then Q (.bl true) H1 else tb σ H1 Q
def tNotV (ta : TE) : TE := fun σ H Q => ta σ H fun x H1 => ∃ c, x = .bl c ∧ Q (.bl (!c)) H1
theorem pe_one {op} {t : TE} (h : PE X a t) : PE X (.BoolOp op [a] pos) t := fun pins s σ H Q I hw => BoolOp_one (h pins s σ H Q I hw)
theorem pe_and (ha : PE X a ta) (hb : PE X (.BoolOp .And (b :: rest) pos) tb) : PE X (.BoolOp .And (a :: b :: rest) pos) (tAndV ta tb) := by
  intro pins s σ H Q I h
  refine BoolOp_and (thn (ha pins s σ H _ I h) fun v s1 ⟨x, H1, I1, r1, q1⟩ => ?_)
  obtain ⟨c, rfl, q1⟩ := q1
  cases r1
  refine wpAny_truthy_bool ?_
  cases c with
  | true => exact hb pins s1 σ H1 Q I1 q1
  | false => exact ⟨.bl false, H1, I1, rfl, q1⟩
/-- a if t else b -/
def tIf (t : TT) (ta tb : TE) : TE := fun σ H Q => t σ H fun c H1 => if c = true then ta σ H1 Q else tb σ H1 Q
theorem pe_ifExp {c : Expr} (hc : PT X c tA) (ha : PE X a ta) (hb : PE X b tb) : PE X (.IfExp c a b pos) (tIf tA ta tb) := by
  intro pins s σ H Q I h
  refine wpAny_IfExp (thn (hc pins s σ H _ I h) fun d s1 ⟨H1, I1, q1⟩ => ?_)
  cases d with
  | true => exact ha pins s1 σ H1 Q I1 q1
  | false => exact hb pins s1 σ H1 Q I1 q1
end
end L2

namespace L2
open PySem PySem.Spec PyProof.Rows

/-! ### a list, a tuple that is read: tracked, frozen, or an object of the module -/
def SqL (K : PySem.W.Frag) (H : Hp) (a : Addr) (xs : List V) : Prop :=
  Rd H a (.lst xs) ∨
    ∃ (o : Obj) (its : Array Value) (n : Nat), K.lookup a = some o ∧ o.cls = .type "list" ∧ o.dict = none ∧ o.data = .seq its n ∧ its.size ≤ sizeLine ∧ Vals xs its.toList
def SqT (K : PySem.W.Frag) (H : Hp) (a : Addr) (xs : List V) : Prop :=
  Rd H a (.tup xs) ∨
    ∃ (o : Obj) (its : Array Value) (n : Nat), K.lookup a = some o ∧ o.cls = .type "tuple" ∧ o.data = .seq its n ∧ its.size ≤ sizeLine ∧ Vals xs its.toList
def absV : Value → Option V
  | .none => some .non
  | .bool b => some (.bl b)
  | .int i _ => some (.int i)
  | .str x _ => some (.str x)
  | .bytes b _ => some (.byt b)
  | .float b _ => some (.flt b)
  | .ref a => some (.ref a)
  | .type n => some (.ty n)
  | _ => none
theorem RelV.abs {x : V} {u : Value} (r : RelV x u) : absV u = some x := by
  cases x with
  | non => cases r; rfl
  | bl _ => cases r; rfl
  | int _ => obtain ⟨t, rfl⟩ := r; rfl
  | str _ => obtain ⟨t, rfl⟩ := r; rfl
  | byt _ => obtain ⟨t, rfl⟩ := r; rfl
  | flt _ => obtain ⟨t, rfl⟩ := r; rfl
  | ref _ => cases r; rfl
  | ty _ => cases r; rfl
theorem RelV.inj {x y : V} {u : Value} (r : RelV x u) (q : RelV y u) : x = y := Option.some.inj (r.abs.symm.trans q.abs)
theorem Vals.inj : ∀ {xs ys : List V} {us : List Value}, Vals xs us → Vals ys us → xs = ys
  | _, _, _, .nil, .nil => rfl
  | _, _, _, .cons r t, .cons r' t' => by rw [r.inj r', Vals.inj t t']
section
variable {X : Cx} {pins : List (Addr × Obj)} {σ : St} {H : Hp} {s : Shared} {a : Addr} {xs ys : List V}
theorem SqL.of {K : PySem.W.Frag} (h : H a = some (.lst xs)) : SqL K H a xs := .inl (.inl h)
theorem SqT.of {K : PySem.W.Frag} (h : H a = some (.tup xs)) : SqT K H a xs := .inl (.inl h)
theorem Inv.list (I : Inv X pins σ H s) (h : SqL X.K H a xs) : ∃ its : List Value, Vals xs its ∧ PlainL s.heap a its.toArray ∧ xs.length ≤ sizeLine := by
  rcases h with h | ⟨o, its, n, hk, hc, hd, hs, hz, r⟩
  · obtain ⟨z, its, n, r, e⟩ := h.ok I.hok
    exact ⟨its, r, ⟨_, n, e, rfl, rfl, rfl⟩, z⟩
  · refine ⟨its.toList, r, ⟨o, n, I.kIn a o hk, hc, hd, by simpa using hs⟩, ?_⟩
    have e := r.length
    simp only [Array.length_toList] at e
    omega
theorem Inv.tuple (I : Inv X pins σ H s) (h : SqT X.K H a xs) : ∃ its : List Value, Vals xs its ∧ IsTup s.heap a its.toArray ∧ xs.length ≤ sizeLine := by
  rcases h with h | ⟨o, its, n, hk, hc, hs, hz, r⟩
  · obtain ⟨z, its, r, p⟩ := h.ok I.hok
    exact ⟨its, r, p.tup, z⟩
  · refine ⟨its.toList, r, ⟨o, I.kIn a o hk, hc, n, by simpa using hs⟩, ?_⟩
    have e := r.length
    simp only [Array.length_toList] at e
    omega
theorem Inv.list_inj (I : Inv X pins σ H s) (h : SqL X.K H a xs) (h' : SqL X.K H a ys) : xs = ys := by
  obtain ⟨its, r, ⟨o, n, e, _, _, d⟩, _⟩ := I.list h
  obtain ⟨its', r', ⟨o', n', e', _, _, d'⟩, _⟩ := I.list h'
  rw [e] at e'; cases e'
  rw [d] at d'
  injection d' with d1 _
  have : its = its' := by simpa using congrArg Array.toList d1
  subst this
  exact r.inj r'
end

/-! ### another wish about exceptions -/
abbrev Cx.wish (X : Cx) (E : Value → Shared → Prop) : Cx := { X with xe := E }
/-- no exception leaves -/
abbrev Cx.nox (X : Cx) : Cx := X.wish fun _ _ => False
theorem Cx.Ok.wish {X : Cx} (ok : X.Ok) (E : Value → Shared → Prop) : (X.wish E).Ok :=
  ⟨ok.mod, ok.kind, ok.glob, ok.blt, ok.above, ok.inj, ok.has, ok.cab, ok.hd, ok.frames, ok.stk, ok.exf, ok.bs, ok.bsz, ok.noex, ok.exfs, ok.funs, ok.frf⟩
theorem Cx.Ok.unwish {X : Cx} {E : Value → Shared → Prop} (ok : (X.wish E).Ok) : X.Ok :=
  ⟨ok.mod, ok.kind, ok.glob, ok.blt, ok.above, ok.inj, ok.has, ok.cab, ok.hd, ok.frames, ok.stk, ok.exf, ok.bs, ok.bsz, ok.noex, ok.exfs, ok.funs, ok.frf⟩
section
variable {X : Cx} {pins : List (Addr × Obj)} {σ : St} {H : Hp} {s : Shared} {E : Value → Shared → Prop}
theorem Inv.wish (I : Inv X pins σ H s) (E : Value → Shared → Prop) : Inv (X.wish E) pins σ H s := ⟨I.ok.wish E, I.os, I.bare, I.base, I.loc, I.cell, I.free, I.freeC, I.pin, I.hok, I.len⟩
theorem Inv.unwish (I : Inv (X.wish E) pins σ H s) : Inv X pins σ H s := ⟨I.ok.unwish, I.os, I.bare, I.base, I.loc, I.cell, I.free, I.freeC, I.pin, I.hok, I.len⟩
theorem SP.unwish {D : Ends} {f : Flow} {s' : Shared} (h : SP (X.wish E) pins D f s') : SP X pins D f s' := by
  cases f with
  | next => obtain ⟨σ', H', I, q⟩ := h; exact ⟨σ', H', I.unwish, q⟩
  | brk => obtain ⟨σ', H', I, q⟩ := h; exact ⟨σ', H', I.unwish, q⟩
  | cont => obtain ⟨σ', H', I, q⟩ := h; exact ⟨σ', H', I.unwish, q⟩
  | ret u => obtain ⟨v, σ', H', I, r, q⟩ := h; exact ⟨v, σ', H', I.unwish, r, q⟩
theorem PE.nox {e : Expr} {t : TE} (h : PE X.nox e t) : PE X e t := fun pins s σ H Q I hw =>
  wpAny_mono (h pins s σ H Q (I.wish _) hw) (fun _ _ ⟨v, H', I', r, q⟩ => ⟨v, H', I'.unwish, r, q⟩) fun _ _ z => False.elim z
theorem PT.nox {e : Expr} {t : TT} (h : PT X.nox e t) : PT X e t := fun pins s σ H Q I hw =>
  wpAny_mono (h pins s σ H Q (I.wish _) hw) (fun _ _ ⟨H', I', q⟩ => ⟨H', I'.unwish, q⟩) fun _ _ z => False.elim z
theorem PSs.nox {st : List Stmt} {t : TS} (h : PSs X.nox st t) : PSs X st t := fun pins s σ H D I hw =>
  wpAny_mono (h pins s σ H D (I.wish _) hw) (fun _ _ q => q.unwish) fun _ _ z => False.elim z
end

/-! ### blocks and small statements -/
section
variable {X : Cx} {st : Stmt} {rest : List Stmt} {t u : TS} {e : Expr} {te : TE} {pos : Pos}
def tNext : TS := fun D σ H => D.nx σ H
def tSeq (t u : TS) : TS := fun D σ H => t { D with nx := u D } σ H
theorem pss_nil : PSs X [] tNext := fun _ _ σ H _ I h => wpAny_execs_nil ⟨σ, H, I, h⟩
theorem pss_cons (h1 : PS X st t) (h2 : PSs X rest u) : PSs X (st :: rest) (tSeq t u) := by
  intro pins s σ H D I h
  refine wpAny_execs_cons (thn (h1 pins s σ H { D with nx := u D } I h) fun f s1 q => ?_)
  cases f with
  | next =>
    obtain ⟨σ', H', I', q⟩ := q
    exact h2 pins s1 σ' H' D I' q
  | ret v => exact q
  | brk => exact q
  | cont => exact q
theorem pss_one (h1 : PS X st t) : PSs X [st] t := by
  intro pins s σ H D I h
  refine wpAny_execs_cons (thn (h1 pins s σ H D I h) fun f s1 q => ?_)
  cases f with
  | next => exact wpAny_execs_nil q
  | ret v => exact q
  | brk => exact q
  | cont => exact q
def tBreak : TS := fun D σ H => D.bk σ H
def tCont : TS := fun D σ H => D.ct σ H
/-- in a def's body nothing is shown -/
theorem Inv.quiet {pins : List (Addr × Obj)} {σ : St} {H : Hp} {s : Shared} (I : Inv X pins σ H s) : interactive X.env = false := by simp [interactive, I.ok.kind]
/-- an expression whose value is dropped -/
def tDrop (te : TE) : TS := fun D σ H => te σ H fun _ H1 => D.nx σ H1
theorem ps_expr (he : PE X e te) (hs : swapsWith e none pos.line X.env = pure false := by rfl) : PS X (.Expr e pos) (tDrop te) := by
  intro pins s σ H D I h
  exact wpAny_Expr_any (thn (he pins s σ H _ I h) fun v s1 ⟨x, H1, I1, r1, q1⟩ => ⟨σ, H1, I1, q1⟩) I.quiet hs
def tRet (te : TE) : TS := fun D σ H => te σ H D.rt
theorem ps_ret (he : PE X e te) : PS X (.Return (some e) pos) (tRet te) := by
  intro pins s σ H D I h
  exact wpAny_Return_some (thn (he pins s σ H _ I h) fun v s1 ⟨x, H1, I1, r1, q1⟩ => ⟨x, σ, H1, I1, r1, q1⟩)
def tRetN : TS := fun D _ H => D.rt .non H
def tIfS (c : TT) (t u : TS) : TS := fun D σ H => c σ H fun b H1 => if b = true then t D σ H1 else u D σ H1
theorem ps_if {c : Expr} {a b : List Stmt} {tc : TT} (hc : PT X c tc) (ha : PSs X a t) (hb : PSs X b u) : PS X (.If c a b pos) (tIfS tc t u) := by
  intro pins s σ H D I h
  refine wpAny_If (thn (hc pins s σ H _ I h) fun d s1 ⟨H1, I1, q1⟩ => ?_)
  cases d with
  | true => exact ha pins s1 σ H1 D I1 q1
  | false => exact hb pins s1 σ H1 D I1 q1
end

/-! ### targets -/
abbrev TG := V → St → Hp → (St → Hp → Prop) → Prop
abbrev TGs := List V → St → Hp → (St → Hp → Prop) → Prop
def PG (X : Cx) (target : Expr) (t : TG) : Prop :=
  ∀ (pins : List (Addr × Obj)) (s : Shared) (σ : St) (H : Hp) (v : V) (u : Value) (Q : St → Hp → Prop), Inv X pins σ H s → RelV v u → t v σ H Q →
    wpAny (model X.prog X.w) X.A (assign target X.env u) (fun _ s' => ∃ σ' H', Inv X pins σ' H' s' ∧ Q σ' H') X.xe s
/-- several targets, one after another -/
def PGs (X : Cx) (ts : List Expr) (t : TGs) : Prop :=
  ∀ (pins : List (Addr × Obj)) (s : Shared) (σ : St) (H : Hp) (vs : List V) (us : List Value) (Q : St → Hp → Prop), Inv X pins σ H s → Vals vs us → t vs σ H Q →
    wpAny (model X.prog X.w) X.A (assignInOrder ((assignEach ts X.env).map (·.2)) us) (fun _ s' => ∃ σ' H', Inv X pins σ' H' s' ∧ Q σ' H') X.xe s
/-- o[i] = v, by values -/
abbrev TSet := V → V → V → Hp → (Hp → Prop) → Prop
def PSet (X : Cx) (t : TSet) : Prop :=
  ∀ (pins : List (Addr × Obj)) (s : Shared) (σ : St) (H : Hp) (o i v : V) (ov iv u : Value) (Q : Hp → Prop), Inv X pins σ H s → RelV o ov → RelV i iv → RelV v u → t o i v H Q →
    wpAny (model X.prog X.w) X.A (setItem ov iv u) (fun _ s' => ∃ H', Inv X pins σ H' s' ∧ Q H') X.xe s
/-- a op= b, by values -/
abbrev TIp := V → V → Hp → VK → Prop
section
variable {X : Cx} {pos : Pos}
def gName (i : Nat) : TG := fun v σ H Q => Q (σ.set i (some v)) H
theorem pg_name {i : Nat} {x : Str} (hN : X.N.Nodup) (hi : X.N[i]? = some x) (hx : Loc X.env.scope x) (hf : X.fn x = true ∨ X.env.scope.names.lookup x = some .local := by first | exact .inl rfl | exact .inr rfl | assumption) : PG X (.Name x pos) (gName i) := by
  intro pins s σ H v u Q I r h
  exact wpAny_assign_Name (store_ok I hN hi hx r (fun s' I' => ⟨_, H, I', h⟩) hf)
def gNil : TGs := fun vs σ H Q => vs = [] ∧ Q σ H
def gCons (t : TG) (u : TGs) : TGs := fun vs σ H Q => ∃ v r, vs = v :: r ∧ t v σ H fun σ' H' => u r σ' H' Q
theorem pgs_nil : PGs X [] gNil := by
  intro pins s σ H vs us Q I r h
  obtain ⟨e, h⟩ := h
  subst e
  cases r
  exact assignInOrder_nil ⟨σ, H, I, h⟩
theorem pgs_cons {e : Expr} {es : List Expr} {t : TG} {u : TGs} (h1 : PG X e t) (h2 : PGs X es u)
    (hs : (assignEach (e :: es) X.env).map (·.2) = assign e X.env :: (assignEach es X.env).map (·.2) := by rfl) : PGs X (e :: es) (gCons t u) := by
  intro pins s σ H vs us Q I r h
  obtain ⟨v, vr, e1, h⟩ := h
  subst e1
  cases r with
  | cons r rr =>
    rw [hs]
    refine assignInOrder_cons (thn (h1 pins s σ H _ _ _ I r h) fun _ s1 ⟨σ1, H1, I1, q1⟩ => ?_)
    exact h2 pins s1 σ1 H1 _ _ Q I1 rr q1
/-- (a, b, ..) = a tuple of that length -/
def gTup (K : PySem.W.Frag) (n : Nat) (t : TGs) : TG := fun v σ H Q => ∃ a xs, v = .ref a ∧ SqT K H a xs ∧ xs.length = n ∧ t xs σ H Q
theorem pg_tup {es : List Expr} {k : Nat} {t : TGs} {n : Nat} (hc : X.calm = true) (h : PGs X es t)
    (hn : (assignEach es X.env).length = n := by rfl) (hst : (assignEach es X.env).findIdx? (·.1) = none := by rfl) : PG X (.Tuple es k pos) (gTup X.K n t) := by
  intro pins s σ H v u Q I r hw
  obtain ⟨a, xs, e1, hq, hl, hw⟩ := hw
  subst e1
  cases r
  obtain ⟨its, rv, ht, hz⟩ := I.tuple hq
  refine assign_Tuple_tuple (I.ok.hd hc) ht (by simp [hn, ← hl, rv.length]) hst fun h' hx => ?_
  have I1 : Inv X pins σ H { s with heap := h' } := I.kept (t' := s.toks) fun b o e => hx b o (Nat.ne_of_lt (Heap.lt_size e)) e
  exact h pins _ σ H xs _ Q I1 (by simpa using rv) hw
/-- o[i] = .. -/
def gSub (to ti : TE) (t : TSet) : TG := fun v σ H Q => to σ H fun o H1 => ti σ H1 fun i H2 => t o i v H2 fun H3 => Q σ H3
theorem pg_sub {o i : Expr} {to ti : TE} {t : TSet} (ho : PE X o to) (hi : PE X i ti) (hs : PSet X t)
    (ha : ∀ v, assign (.Subscript o i pos) X.env v = (do
      let ov ← holding [v] (eval o X.env)
      let iv ← holding [v, ov] (eval i X.env)
      standAt pos
      holding [v, ov, iv] (setItem ov iv v)
      release [v, ov, iv] []) := by intro _; rfl) : PG X (.Subscript o i pos) (gSub to ti t) := by
  intro pins s σ H v u Q I r h
  rw [ha]
  refine wpAny_bind (wpAny_holding (thn (ho pins s σ H _ I h) fun ov s1 ⟨x, H1, I1, r1, q1⟩ => ?_))
  refine wpAny_bind (wpAny_holding (thn (hi pins s1 σ H1 _ I1 q1) fun iv s2 ⟨y, H2, I2, r2, q2⟩ => ?_))
  refine wpAny_bind (wpAny_standAt (wpAny_bind (wpAny_holding (thn (hs pins s2 σ H2 x y v ov iv u _ I2 r1 r2 r q2) fun _ s3 ⟨H3, I3, q3⟩ => ?_))))
  exact wpAny_release ⟨σ, H3, I3, q3⟩
/-- target = value -/
def tAsg (te : TE) (g : TG) : TS := fun D σ H => te σ H fun x H1 => g x σ H1 D.nx
theorem ps_asg {tg e : Expr} {te : TE} {g : TG} (he : PE X e te) (hg : PG X tg g) (hs : swapsWithSole [tg] e pos.line X.env = pure false := by rfl) (hw : swappedStores [tg] e X.env = pure none := by rfl)
    (h1 : (assignEach [tg] X.env).map (·.2) = [assign tg X.env] := by rfl) : PS X (.Assign [tg] e pos) (tAsg te g) := by
  intro pins s σ H D I h
  refine wpAny_Assign_stores (thn (he pins s σ H _ I h) fun v s1 ⟨x, H1, I1, r1, q1⟩ => ?_) hs hw
  rw [h1]
  exact thn (hg pins s1 σ H1 x v _ I1 r1 q1) fun _ s2 q => q
/-- name = value -/
theorem ps_set {i : Nat} {x : Str} {e : Expr} {te : TE} {pos' : Pos} (hN : X.N.Nodup) (hi : X.N[i]? = some x) (hx : Loc X.env.scope x) (he : PE X e te) (hs : swapsWith e (some (.Name x pos')) pos.line X.env = pure false := by rfl) (hf : X.fn x = true ∨ X.env.scope.names.lookup x = some .local := by first | exact .inl rfl | exact .inr rfl | assumption) :
    PS X (.Assign [.Name x pos'] e pos) (tAsg te (gName i)) := by
  intro pins s σ H D I h
  refine wpAny_Assign_Name (thn (he pins s σ H _ I h) fun v s1 ⟨y, H1, I1, r1, q1⟩ => ?_) hs
  exact store_ok I1 hN hi hx r1 (fun s2 I2 => ⟨_, H1, I2, q1⟩) hf
/-- o[i] op= e -/
def tAugS (to ti te : TE) (tget : V → V → Hp → VK → Prop) (tip : TIp) (tset : TSet) : TS := fun D σ H => to σ H fun o H1 => ti σ H1 fun i H2 => tget o i H2 fun x H3 => te σ H3 fun y H4 => tip x y H4 fun z H5 => tset o i z H5 fun H6 => D.nx σ H6
/-- ints -/
def ipI (f : Int → Int → Int) : TIp := fun x y H Q => ∃ i j, x = .int i ∧ y = .int j ∧ Q (.int (f i j)) H
end

/-! ### while -/
section
variable {X : Cx} {pos : Pos}
/-- the invariant W with its measure -/
def tWhile (c : TT) (tb : TS) : TS := fun D σ H => ∃ W : Nat → St → Hp → Prop, (∃ m, W m σ H) ∧ ∀ m σ H, W m σ H →
  c σ H fun b H1 => if b = true then ∃ N : St → Hp → Prop, (∀ σ' H', N σ' H' → ∃ m', m' < m ∧ W m' σ' H') ∧ tb { D with nx := N, ct := N, bk := D.nx } σ H1 else D.nx σ H1
end

/-! ### what a loop or a comprehension walks -/
/-- at turn i: it yields x (the heap may grow), or it stops -/
structure It where
  go : Nat → Hp → Prop
  yld : Nat → Hp → V → Hp → Prop
  stop : Nat → Hp → Prop
/-- the iterator's own objects may turn: they are not the frame's, not pinned, younger than the entry (or a comprehension's own) -/
def FpOk (X : Cx) (pins : List (Addr × Obj)) (H : Hp) (b : Addr) : Prop :=
  H b = none ∧ b ≠ X.env.locals ∧ b ∉ X.fs ∧ (b ∈ X.ex ∨ X.s₀.heap.objs.size ≤ b) ∧ (∀ x c, X.env.cells.lookup x = some c → c ≠ b) ∧ ∀ p ∈ X.pn ++ pins, p.1 ≠ b
theorem Inv.fpOk {X : Cx} {pins : List (Addr × Obj)} {σ : St} {H H' : Hp} {s : Shared} {b : Addr} (I : Inv X pins σ H s) (hb : s.heap.objs.size ≤ b) (hn : H' b = none) : FpOk X pins H' b := by
  refine ⟨hn, Nat.ne_of_gt (Nat.lt_of_lt_of_le I.lt hb), I.nofs hb, .inr (Nat.le_trans I.sz hb), fun x c e z => ?_, fun p hp z => ?_⟩
  · obtain ⟨v, q⟩ := I.cell x c e
    exact absurd (Nat.lt_of_lt_of_le q.lt (by rw [z]; exact hb)) (Nat.lt_irrefl _)
  · exact absurd (Nat.lt_of_lt_of_le (Heap.lt_size (I.pin p hp).1) (by rw [z]; exact hb)) (Nat.lt_irrefl _)
structure Turn (P : Program) (w : World) (K : PySem.W.Frag) (tg : Expr) (J : It) (fp : List Addr) (it : Addr) (tn : Nat → Heap → Prop) : Prop where
  mem : it ∈ fp
  obj : ∀ i h, tn i h → ∀ b ∈ fp, ∃ o, h.get? b = some o ∧ ∀ v, o.data ≠ .cell v
  keep : ∀ i h h', tn i h → (∀ b ∈ fp, ∀ o, h.get? b = some o → h'.get? b = some o) → tn i h'
  item : ∀ (X : Cx), X.prog = P → X.w = w → X.K = K → X.calm = true → ∀ (i : Nat) (pins : List (Addr × Obj)) (s : Shared) (σ : St) (H : Hp) (E : Value → Shared → Prop), Inv X pins σ H s → (∀ b ∈ fp, FpOk X pins H b) → tn i s.heap → J.go i H →
    wpAny (model P w) X.A (pyNext (.ref it)) (fun r s1 => ∃ u, r = some u ∧
      wpAny (model P w) X.A (letOwnedTupleGo tg (.ref it) u) (fun _ s2 => ∃ x H', Inv X pins σ H' s2 ∧ RelV x u ∧ J.yld i H x H' ∧ tn (i + 1) s2.heap ∧ ∀ b ∈ fp, H' b = none) E s1) E s
  done : ∀ (X : Cx), X.prog = P → X.w = w → X.K = K → X.calm = true → ∀ (i : Nat) (pins : List (Addr × Obj)) (s : Shared) (σ : St) (H : Hp) (E : Value → Shared → Prop), Inv X pins σ H s → (∀ b ∈ fp, FpOk X pins H b) → tn i s.heap → J.stop i H →
    wpAny (model P w) X.A (pyNext (.ref it)) (fun r s1 => r = none ∧ Inv X pins σ H s1) E s
  self : ∀ (A : Around) (i : Nat) (s : Shared) (Q : Value → Shared → Prop) (E : Value → Shared → Prop), tn i s.heap → Q (.ref it) s → wpAny (model P w) A (pyIter (.ref it)) Q E s
abbrev TI := St → Hp → (It → Hp → Prop) → Prop
/-- an iterator has come -/
def PIE (X : Cx) (pins : List (Addr × Obj)) (σ : St) (tg : Expr) (R : It → Hp → Prop) (itv : Value) (s2 : Shared) : Prop :=
  ∃ (it : Addr) (fp : List Addr) (tn : Nat → Heap → Prop) (J : It) (H' : Hp), itv = .ref it ∧ Inv X pins σ H' s2 ∧ Turn X.prog X.w X.K tg J fp it tn ∧ tn 0 s2.heap ∧ (∀ b ∈ fp, FpOk X pins H' b) ∧ R J H'
def PI (X : Cx) (tg iter : Expr) (wi : TI) : Prop :=
  ∀ (pins : List (Addr × Obj)) (s : Shared) (σ : St) (H : Hp) (R : It → Hp → Prop), Inv X pins σ H s → wi σ H R →
    wpAny (model X.prog X.w) X.A (eval iter X.env) (fun v s1 => wpAny (model X.prog X.w) X.A (pyIter v) (PIE X pins σ tg R) X.xe s1) X.xe s

/-- the step ahead of the store is nothing for an iterator that keeps no tuple -/
theorem go_of {M : Model} {A : Around} {E : Value → Shared → Prop} {s : Shared} {tg : Expr} {it : Addr} {u : Value} {o : Obj} {n : String} {vs : Array Value} {Q : Unit → Shared → Prop} (ho : s.heap.get? it = some o) (hc : o.cls = .type n) (hd : o.data = .fields vs)
    (hn : ["enumerate", "zip", "dict_itemiterator", "dict_reverseitemiterator", "odict_iterator", "itertools.zip_longest", "itertools.pairwise"].contains n = false) (hQ : Q () s) : wpAny M A (letOwnedTupleGo tg (.ref it) u) Q E s := by
  unfold letOwnedTupleGo
  cases tg <;> first
    | exact wpAny_pure hQ
    | (cases u <;> first
        | exact wpAny_pure hQ
        | (refine wpAny_bind (wpAny_load ho ?_)
           rw [hc, hd]
           show wpAny M A (if (["enumerate", "zip", "dict_itemiterator", "dict_reverseitemiterator", "odict_iterator", "itertools.zip_longest", "itertools.pairwise"].contains n && vs[0]? == some (rawInt _)) = true then _ else _) Q E s
           rw [if_neg (by intro h; rw [hn, Bool.false_and] at h; cases h)]
           exact wpAny_pure hQ))

/-- the list at a, as it stands at each turn (a loop may append to it) -/
def Itl (K : PySem.W.Frag) (a : Addr) : It :=
  ⟨fun i H => ∃ xs x, SqL K H a xs ∧ xs[i]? = some x, fun i H x H' => H' = H ∧ ∀ xs, SqL K H a xs → xs[i]? = some x, fun i H => ∃ xs, SqL K H a xs ∧ xs.length ≤ i⟩
def Itt (K : PySem.W.Frag) (a : Addr) : It :=
  ⟨fun i H => ∃ xs x, SqT K H a xs ∧ xs[i]? = some x, fun i H x H' => H' = H ∧ ∀ xs, SqT K H a xs → xs[i]? = some x, fun i H => ∃ xs, SqT K H a xs ∧ xs.length ≤ i⟩
/-- lo, lo + 1, .. (n of them) -/
def Itr (lo : Int) (n : Nat) : It := ⟨fun i _ => i < n, fun i H x H' => H' = H ∧ x = .int (lo + i), fun i _ => n ≤ i⟩
theorem turn_list {P : Program} {w : World} {K : PySem.W.Frag} {tg : Expr} (a it : Addr) : Turn P w K tg (Itl K a) [it] it (fun i h => h.IsListIter it a i) where
  mem := by simp
  obj := fun i h st b hb => by
    have e : b = it := by simpa using hb
    subst e
    obtain ⟨o, e, c, d⟩ := st
    exact ⟨o, e, fun v z => by rw [d] at z; cases z⟩
  keep := fun i h h' st k => st.at fun o e => k it (by simp) o e
  item := by
    intro X hP hw hK hc i pins s σ H E I hf st hg
    subst hP hw hK
    obtain ⟨xs, x, hq, hx⟩ := hg
    obtain ⟨its, rv, p, hz⟩ := I.list hq
    obtain ⟨u, hu, ru⟩ := rv.get hx
    obtain ⟨f0, f1, f2, f3, f4, f5⟩ := hf it (by simp)
    refine wpAny_pyNext_list_item st p.isList (x := u) (by simpa using hu) fun h' st' sb => ?_
    have I1 : Inv X pins σ H { s with heap := h' } := I.turned (t' := s.toks) (fun b o hb e => (sb.2 b hb).trans e) f0 f1 f3 f4 f5
    obtain ⟨o, e, c, d⟩ := id st'
    exact ⟨u, rfl, go_of (s := { s with heap := h' }) e c d (by decide) ⟨x, H, I1, ru, ⟨rfl, fun ys hy => by rw [I.list_inj hy hq]; exact hx⟩, st', fun b hb => (hf b hb).1⟩⟩
  done := by
    intro X hP hw hK hc i pins s σ H E I hf st hg
    subst hP hw hK
    obtain ⟨xs, hq, hx⟩ := hg
    obtain ⟨its, rv, p, hz⟩ := I.list hq
    obtain ⟨f0, f1, f2, f3, f4, f5⟩ := hf it (by simp)
    have hl := rv.length
    exact wpAny_pyNext_list_end (I.ok.hd hc) st p.isList (by simp; omega) fun h' eb => ⟨rfl, I.turned (t' := s.toks) (fun b o hb e => eb b o hb e) f0 f1 f3 f4 f5⟩
  self := fun _ _ _ _ _ st h => wpAny_pyIter_listiter st h
theorem turn_range {P : Program} {w : World} {K : PySem.W.Frag} {tg : Expr} (it : Addr) (lo : Int) (n : Nat) : Turn P w K tg (Itr lo n) [it] it (fun i h => IsRangeIter h it (lo + (i : Nat) * 1) ((n : Int) - (i : Nat)) 1) where
  mem := by simp
  obj := fun i h st b hb => by
    have e : b = it := by simpa using hb
    subst e
    exact ⟨_, st, fun v z => by
      have z' : Data.fields _ = Data.cell v := z
      cases z'⟩
  keep := fun i h h' st k => k it (by simp) _ st
  item := by
    intro X hP hw hK hc i pins s σ H E I hf st hg
    subst hP hw hK
    obtain ⟨f0, f1, f2, f3, f4, f5⟩ := hf it (by simp)
    have W := Walks.range (prog := X.prog) (w := X.w) (I.ok.hd hc) it lo 1 n
    refine W.item i s _ _ hg st fun v h' tk hv st' kk => ?_
    obtain ⟨t, rfl⟩ := hv
    have I1 : Inv X pins σ H { s with heap := h', toks := tk } := I.turned (fun b o hb e => kk b o (by simpa using hb) e) f0 f1 f3 f4 f5
    refine ⟨_, rfl, go_of (s := { s with heap := h', toks := tk }) (n := "range_iterator") st' rfl rfl (by decide) ⟨.int (lo + i), H, I1, ⟨t, ?_⟩, ⟨rfl, rfl⟩, st', fun b hb => (hf b hb).1⟩⟩
    rw [Int.mul_one]
  done := by
    intro X hP hw hK hc i pins s σ H E I hf st hg
    subst hP hw hK
    obtain ⟨f0, f1, f2, f3, f4, f5⟩ := hf it (by simp)
    exact wpAny_pyNext_range_end (I.ok.hd hc) st (by have : n ≤ i := hg; omega) fun h' eb => ⟨rfl, I.turned (t' := s.toks) (fun b o hb e => eb b o hb e) f0 f1 f3 f4 f5⟩
  self := fun _ _ _ _ _ st h => wpAny_pyIter_rangeiter st h
end L2

namespace L2
open PySem PySem.Spec PyProof.Rows
section
variable {X : Cx} {tg : Expr}
def iList (K : PySem.W.Frag) (tl : TE) : TI := fun σ H R => tl σ H fun x H1 => ∃ a, x = .ref a ∧ (∃ xs, SqL K H1 a xs) ∧ R (Itl K a) H1
def iTup (K : PySem.W.Frag) (tl : TE) : TI := fun σ H R => tl σ H fun x H1 => ∃ a, x = .ref a ∧ (∃ xs, SqT K H1 a xs) ∧ R (Itt K a) H1
theorem pi_list {l : Expr} {tl : TE} (hl : PE X l tl) : PI X tg l (iList X.K tl) := by
  intro pins s σ H R I h
  refine thn (hl pins s σ H _ I h) fun v s1 ⟨x, H1, I1, r1, q1⟩ => ?_
  obtain ⟨a, e, ⟨xs, hq⟩, q⟩ := q1
  subst e
  cases r1
  obtain ⟨its, rv, p, hz⟩ := I1.list hq
  refine wpAny_pyIter_list p.isList ?_
  refine ⟨s1.heap.objs.size, [s1.heap.objs.size], _, _, H1, rfl, I1.kept (t' := s1.toks) fun b o e => Heap.get?_push_of_some _ e, turn_list a _, ⟨_, Heap.get?_push_size _ rfl, rfl, rfl⟩, fun b hb => ?_, q⟩
  have e : b = s1.heap.objs.size := by simpa using hb
  subst e
  exact I1.fpOk (Nat.le_refl _) (I1.hok.fresh (Nat.le_refl _))
/-- a range object just made, walked -/
theorem range_it {pins : List (Addr × Obj)} {σ : St} {H : Hp} {s : Shared} {R : It → Hp → Prop} {E : Value → Shared → Prop} {lo hi : Int} {t u v : Tok} {tk : Nat} (I : Inv X pins σ H s) (h1 : -(2 ^ 62) ≤ lo) (h2 : lo < 2 ^ 62) (h3 : -(2 ^ 62) ≤ hi) (h4 : hi < 2 ^ 62)
    (q : R (Itr lo (hi - lo).toNat) H) : wpAny (model X.prog X.w) X.A (pyIter (.ref s.heap.objs.size)) (PIE X pins σ tg R) E { s with heap := s.heap.push { cls := .type "range", data := .fields #[.int lo t, .int hi u, .int 1 v] }, toks := tk } := by
  refine wpAny_pyIter_range (IsRange.new ..) (small_one h1 h2 h3 h4) ?_
  have I1 : Inv X pins σ H { s with heap := s.heap.push { cls := .type "range", data := .fields #[.int lo t, .int hi u, .int 1 v] }, toks := tk } := I.kept fun b o e => Heap.get?_push_of_some _ e
  refine ⟨(s.heap.push { cls := .type "range", data := .fields #[.int lo t, .int hi u, .int 1 v] }).objs.size, [(s.heap.push { cls := .type "range", data := .fields #[.int lo t, .int hi u, .int 1 v] }).objs.size], _, _, H, rfl,
    I1.kept (t' := tk) fun b o e => Heap.get?_push_of_some _ e, turn_range _ lo (hi - lo).toNat, ?_, fun b hb => ?_, q⟩
  · have e1 : lo + ((0 : Nat) : Int) * 1 = lo := by simp
    have e2 : (((hi - lo).toNat : Nat) : Int) - ((0 : Nat) : Int) = Builtin.Range.rangeSize lo hi 1 := by rw [rangeSize_one]; split <;> omega
    show IsRangeIter _ _ (lo + ((0 : Nat) : Int) * 1) ((((hi - lo).toNat : Nat) : Int) - ((0 : Nat) : Int)) 1
    rw [e1, e2]
    exact Heap.get?_push_size _ rfl
  · have e : b = (s.heap.push { cls := .type "range", data := .fields #[.int lo t, .int hi u, .int 1 v] }).objs.size := by simpa using hb
    subst e
    exact I1.fpOk (Nat.le_refl _) (I1.hok.fresh (Nat.le_refl _))
def iRng1 (ta : TA) : TI := fun σ H R => ta σ H fun vs H1 => ∃ j : Int, vs = [.int j] ∧ -(2 ^ 62) ≤ j ∧ j < 2 ^ 62 ∧ R (Itr 0 j.toNat) H1
def iRng2 (ta : TA) : TI := fun σ H R => ta σ H fun vs H1 => ∃ i j : Int, vs = [.int i, .int j] ∧ (-(2 ^ 62) ≤ i ∧ i < 2 ^ 62 ∧ -(2 ^ 62) ≤ j ∧ j < 2 ^ 62) ∧ R (Itr i (j - i).toNat) H1
theorem pi_range1 {a : Expr} {ta : TA} {p pos : Pos} (hg : Gl X "range") (hm : X.mg "range" = none) (ha : PA X [a] ta) (hs : starEach [a] X.env = [(false, eval a X.env)] := by rfl) : PI X tg (.Call (.Name "range" p) [a] [] pos) (iRng1 ta) := by
  intro pins s σ H R I h
  refine Call_ (ld_blt I hg hm boot_range (PyProof.Rows.callWith_type1 (thn (ha pos pins s σ H _ I h) fun us s1 ⟨vs, H1, I1, r1, q1⟩ => ?_) hs rfl))
  obtain ⟨j, e, q1, q2, q⟩ := q1
  subst e
  cases r1 with
  | cons r rr =>
    cases rr
    obtain ⟨t, rfl⟩ := r
    exact call_range_1 (range_it I1 (by omega) (by omega) q1 q2 (by simpa using q))
theorem pi_range2 {a b : Expr} {ta : TA} {p pos : Pos} (hg : Gl X "range") (hm : X.mg "range" = none) (ha : PA X [a, b] ta) (hs : starEach [a, b] X.env = [(false, eval a X.env), (false, eval b X.env)] := by rfl) (hs2 : starEach [b] X.env = [(false, eval b X.env)] := by rfl) :
    PI X tg (.Call (.Name "range" p) [a, b] [] pos) (iRng2 ta) := by
  intro pins s σ H R I h
  refine Call_ (ld_blt I hg hm boot_range (PyProof.Rows.callWith_type1 (thn (ha pos pins s σ H _ I h) fun us s1 ⟨vs, H1, I1, r1, q1⟩ => ?_) (by rw [hs, hs2]) (by rw [hs2]; rfl)))
  obtain ⟨i, j, e, ⟨q1, q2, q3, q4⟩, q⟩ := q1
  subst e
  cases r1 with
  | cons r rr =>
    cases rr with
    | cons r' rr =>
      cases rr
      obtain ⟨t, rfl⟩ := r
      obtain ⟨t', rfl⟩ := r'
      exact call_range_2 (range_it I1 q1 q2 q3 q4 q)

/-! ### for -/
/-- W: the invariant by the turn and a measure; N: what the body is to reach -/
def tFor (wi : TI) (g : TG) (tb : TS) : TS := fun D σ H => wi σ H fun J H1 => ∃ W : Nat → Nat → St → Hp → Prop, (∃ m, W 0 m σ H1) ∧ ∀ i m σ H, W i m σ H →
  (J.stop i H ∧ D.nx σ H) ∨ (J.go i H ∧ ∃ N : St → Hp → Prop, (∀ σ' H', N σ' H' → ∃ m', m' < m ∧ W (i + 1) m' σ' H') ∧ ∀ x H', J.yld i H x H' → g x σ H' fun σ2 H2 => tb { D with nx := N, ct := N, bk := D.nx } σ2 H2)
/-- the records at fp as they stand -/
def pinsAt (fp : List Addr) (h : Heap) : List (Addr × Obj) := fp.filterMap fun b => (h.get? b).map fun o => (b, o)
theorem mem_pinsAt {fp : List Addr} {h : Heap} {b : Addr} {o : Obj} (hb : b ∈ fp) (e : h.get? b = some o) : (b, o) ∈ pinsAt fp h := List.mem_filterMap.mpr ⟨b, hb, by rw [e]; rfl⟩
theorem of_pinsAt {fp : List Addr} {h : Heap} {p : Addr × Obj} (hp : p ∈ pinsAt fp h) : p.1 ∈ fp ∧ h.get? p.1 = some p.2 := by
  obtain ⟨b, hb, e⟩ := List.mem_filterMap.mp hp
  cases q : h.get? b with
  | none => rw [q] at e; cases e
  | some o =>
    rw [q] at e
    have e' : (b, o) = p := Option.some.inj e
    subst e'
    exact ⟨hb, q⟩
theorem Inv.pinned {pins : List (Addr × Obj)} {σ : St} {H : Hp} {s : Shared} {fp : List Addr} (I : Inv X pins σ H s) (hf : ∀ b ∈ fp, FpOk X pins H b) (ho : ∀ b ∈ fp, ∃ o, s.heap.get? b = some o ∧ ∀ v, o.data ≠ .cell v) : Inv X (pins ++ pinsAt fp s.heap) σ H s :=
  I.pins_of fun p hp => (List.mem_append.mp hp).elim (fun z => I.pin p (List.mem_append_right _ z)) fun z => by
    obtain ⟨hb, e⟩ := of_pinsAt z
    obtain ⟨f0, f1, f2, _⟩ := hf p.1 hb
    obtain ⟨o, e', d⟩ := ho p.1 hb
    rw [e] at e'; cases e'
    exact ⟨e, f0, f1, f2, d⟩
theorem Inv.unpinned {pins pl : List (Addr × Obj)} {σ : St} {H : Hp} {s : Shared} (I : Inv X (pins ++ pl) σ H s) : Inv X pins σ H s := I.pins_of fun p hp => I.pin p (List.mem_append_right _ (List.mem_append_left _ hp))
theorem ps_for {iter : Expr} {body : List Stmt} {wi : TI} {g : TG} {tb : TS} {pos : Pos} (hp : PassesOwn (model X.prog X.w) X.A X.env X.xe) (hc : X.calm = true) (hi : PI X tg iter wi) (hg : PG X tg g) (hb : PSs X body tb)
    (hs : ∀ x, foldedSetIterable iter X.env x = pure x := by intro _; rfl) : PS X (.For tg iter body [] pos) (tFor wi g tb) := by
  intro pins s σ H D I h
  refine wpAny_For (thn (hi pins s σ H _ I h) fun v s1 h1 => thn h1 fun itv s2 h2 => ?_) hs
  obtain ⟨it, fp, tn, J, H2, e, I2, T, st2, f2, W, ⟨m0, w0⟩, turn⟩ := h2
  subst e
  -- what stays true of the iterator's objects through the loop
  have stat : ∀ {H' : Hp}, (∀ b ∈ fp, H' b = none) → ∀ b ∈ fp, FpOk X pins H' b := fun hn b hb => ⟨hn b hb, (f2 b hb).2⟩
  refine codeAny_forLoop_any (fun n s' => ∃ i σ' H', Inv X pins σ' H' s' ∧ tn i s'.heap ∧ (∀ b ∈ fp, H' b = none) ∧ W i n σ' H') ?_ m0 ⟨0, σ, H2, I2, st2, fun b hb => (f2 b hb).1, w0⟩
  rintro n s3 ⟨i, σ3, H3, I3, st3, fr3, w3⟩
  rcases turn i n σ3 H3 w3 with ⟨stop, qn⟩ | ⟨go, N, hN, step⟩
  · refine wpAny_passesOwn hp (thn (T.done X rfl rfl rfl hc i pins s3 σ3 H3 X.xe I3 (stat fr3) st3 stop) fun r s4 ⟨hr, I4⟩ => ?_)
    subst hr
    exact wpAny_execs_nil ⟨σ3, H3, I4, qn⟩
  · refine wpAny_passesOwn hp (thn (T.item X rfl rfl rfl hc i pins s3 σ3 H3 X.xe I3 (stat fr3) st3 go) fun r s4 ⟨u, hr, h4⟩ => ?_)
    subst hr
    refine wpAny_passesOwn hp (thn h4 fun _ s5 ⟨x, H5, I5, r5, y5, st5, fr5⟩ => ?_)
    have I5' := I5.pinned (stat fr5) (T.obj _ _ st5)
    refine wpAny_passesOwn hp (thn (hg _ s5 σ3 H5 x u _ I5' r5 (step x H5 y5)) fun _ s6 ⟨σ6, H6, I6, q6⟩ => ?_)
    refine wpAny_passesOwn hp (thn (hb _ s6 σ6 H6 _ I6 q6) fun f s7 q7 => ?_)
    have again : ∀ {σ7 : St} {H7 : Hp}, Inv X (pins ++ pinsAt fp s5.heap) σ7 H7 s7 → N σ7 H7 → ∃ m, m < n ∧ ∃ i σ' H', Inv X pins σ' H' s7 ∧ tn i s7.heap ∧ (∀ b ∈ fp, H' b = none) ∧ W i m σ' H' := fun {σ7 H7} I7 n7 => by
      obtain ⟨m', hm, w7⟩ := hN σ7 H7 n7
      refine ⟨m', hm, i + 1, σ7, H7, I7.unpinned, T.keep _ _ _ st5 fun b hb o e => (I7.pin (b, o) (List.mem_append_right _ (List.mem_append_right _ (mem_pinsAt hb e)))).1, fun b hb => ?_, w7⟩
      obtain ⟨o, e, d⟩ := T.obj _ _ st5 b hb
      exact (I7.pin (b, o) (List.mem_append_right _ (List.mem_append_right _ (mem_pinsAt hb e)))).2.1
    cases f with
    | next => obtain ⟨σ7, H7, I7, n7⟩ := q7; exact again I7 n7
    | cont => obtain ⟨σ7, H7, I7, n7⟩ := q7; exact again I7 n7
    | brk => obtain ⟨σ7, H7, I7, q7⟩ := q7; exact ⟨σ7, H7, I7.unpinned, q7⟩
    | ret v => obtain ⟨x7, σ7, H7, I7, r7, q7⟩ := q7; exact ⟨x7, σ7, H7, I7.unpinned, r7, q7⟩
end

/-! ### the forms one uses -/
/-- over a list that the body leaves as it is -/
theorem for_list {K : PySem.W.Frag} {a : Addr} {xs : List V} {g : TG} {tb : TS} {D : Ends} {σ : St} {H : Hp} (Pv : Nat → St → Hp → Prop) (h0 : Pv 0 σ H) (hl : ∀ i σ H, i ≤ xs.length → Pv i σ H → SqL K H a xs)
    (hs : ∀ i x σ H, xs[i]? = some x → Pv i σ H → g x σ H fun σ2 H2 => tb { D with nx := Pv (i + 1), ct := Pv (i + 1), bk := D.nx } σ2 H2) (hd : ∀ σ H, Pv xs.length σ H → D.nx σ H) :
    ∃ W : Nat → Nat → St → Hp → Prop, (∃ m, W 0 m σ H) ∧ ∀ i m σ H, W i m σ H →
      ((Itl K a).stop i H ∧ D.nx σ H) ∨ ((Itl K a).go i H ∧ ∃ N : St → Hp → Prop, (∀ σ' H', N σ' H' → ∃ m', m' < m ∧ W (i + 1) m' σ' H') ∧ ∀ x H', (Itl K a).yld i H x H' → g x σ H' fun σ2 H2 => tb { D with nx := N, ct := N, bk := D.nx } σ2 H2) := by
  refine ⟨fun i m σ H => m = xs.length - i ∧ i ≤ xs.length ∧ Pv i σ H, ⟨xs.length, by simp, Nat.zero_le _, h0⟩, ?_⟩
  rintro i m σ H ⟨rfl, hi, p⟩
  have q := hl i σ H hi p
  by_cases hlt : i < xs.length
  · refine .inr ⟨⟨xs, xs[i], q, by simp [hlt]⟩, Pv (i + 1), fun σ' H' p' => ⟨xs.length - (i + 1), by omega, rfl, hlt, p'⟩, fun x H' y => ?_⟩
    obtain ⟨e, y⟩ := y
    subst e
    exact hs i x σ _ (y xs q) p
  · have e : i = xs.length := by omega
    subst e
    exact .inl ⟨⟨xs, q, Nat.le_refl _⟩, hd σ H p⟩
theorem for_range {lo : Int} {n : Nat} {g : TG} {tb : TS} {D : Ends} {σ : St} {H : Hp} (Pv : Nat → St → Hp → Prop) (h0 : Pv 0 σ H)
    (hs : ∀ i σ H, i < n → Pv i σ H → g (.int (lo + i)) σ H fun σ2 H2 => tb { D with nx := Pv (i + 1), ct := Pv (i + 1), bk := D.nx } σ2 H2) (hd : ∀ σ H, Pv n σ H → D.nx σ H) :
    ∃ W : Nat → Nat → St → Hp → Prop, (∃ m, W 0 m σ H) ∧ ∀ i m σ H, W i m σ H →
      ((Itr lo n).stop i H ∧ D.nx σ H) ∨ ((Itr lo n).go i H ∧ ∃ N : St → Hp → Prop, (∀ σ' H', N σ' H' → ∃ m', m' < m ∧ W (i + 1) m' σ' H') ∧ ∀ x H', (Itr lo n).yld i H x H' → g x σ H' fun σ2 H2 => tb { D with nx := N, ct := N, bk := D.nx } σ2 H2) := by
  refine ⟨fun i m σ H => m = n - i ∧ i ≤ n ∧ Pv i σ H, ⟨n, by simp, Nat.zero_le _, h0⟩, ?_⟩
  rintro i m σ H ⟨rfl, hi, p⟩
  by_cases hlt : i < n
  · refine .inr ⟨hlt, Pv (i + 1), fun σ' H' p' => ⟨n - (i + 1), by omega, rfl, hlt, p'⟩, fun x H' y => ?_⟩
    obtain ⟨e, y⟩ := y
    subst e y
    exact hs i σ _ hlt p
  · have e : i = n := by omega
    subst e
    exact .inl ⟨Nat.le_refl _, hd σ H p⟩
end L2

namespace L2
open PySem PySem.Spec PyProof.Rows

abbrev R2 := V → V → Hp → VK → Prop
/-- a two-place operation on values: f is binaryOp op, inplaceOp op or compareOp op -/
def OpR (X : Cx) (f : Value → Value → Sem Value) (r : R2) : Prop :=
  ∀ (pins : List (Addr × Obj)) (s : Shared) (σ : St) (H : Hp) (x y : V) (v u : Value) (Q : VK), Inv X pins σ H s → RelV x v → RelV y u → r x y H Q →
    wpAny (model X.prog X.w) X.A (f v u) (EP X pins σ Q) X.xe s
/-- a one-place operation -/
def UnR (X : Cx) (f : Value → Sem Value) (r : V → Hp → VK → Prop) : Prop :=
  ∀ (pins : List (Addr × Obj)) (s : Shared) (σ : St) (H : Hp) (x : V) (v : Value) (Q : VK), Inv X pins σ H s → RelV x v → r x H Q →
    wpAny (model X.prog X.w) X.A (f v) (EP X pins σ Q) X.xe s
/-- a call of a value that is known (a builtin, a type) with values -/
def CallR (X : Cx) (f : Value) (r : List V → Hp → VK → Prop) : Prop :=
  ∀ (pins : List (Addr × Obj)) (s : Shared) (σ : St) (H : Hp) (xs : List V) (us : List Value) (Q : VK), Inv X pins σ H s → Vals xs us → r xs H Q →
    wpAny (model X.prog X.w) X.A (call f us) (EP X pins σ Q) X.xe s
def tOp (r : R2) (ta tb : TE) : TE := fun σ H Q => ta σ H fun x H1 => tb σ H1 fun y H2 => r x y H2 Q
def tUn (r : V → Hp → VK → Prop) (ta : TE) : TE := fun σ H Q => ta σ H fun x H1 => r x H1 Q
/-- ints in, under C, and a value out -/
def rI (C : Int → Int → Prop) (g : Int → Int → V) : R2 := fun x y H Q => ∃ i j, x = .int i ∧ y = .int j ∧ C i j ∧ Q (g i j) H
def rI0 (g : Int → Int → V) : R2 := fun x y H Q => ∃ i j, x = .int i ∧ y = .int j ∧ Q (g i j) H
def rU (g : Int → V) : V → Hp → VK → Prop := fun x H Q => ∃ i, x = .int i ∧ Q (g i) H

section
variable {X : Cx} {a b c : Expr} {ta tb tc : TE} {pos : Pos}

theorem binT (ha : PE X a ta) (hb : PE X b tb) {pins : List (Addr × Obj)} {s : Shared} {σ : St} {H : Hp} {R : V → V → Hp → Prop} (I : Inv X pins σ H s)
    (h : ta σ H fun x H1 => tb σ H1 fun y H2 => R x y H2) {Q : Value → Shared → Prop} {f : Value → Value → Sem Value}
    (hf : ∀ v u s2 x y H2, Inv X pins σ H2 s2 → RelV x v → RelV y u → R x y H2 → wpAny (model X.prog X.w) X.A (f v u) Q X.xe s2) :
    wpAny (model X.prog X.w) X.A (eval a X.env) (fun v s₁ => wpAny (model X.prog X.w) X.A (eval b X.env) (fun u s₂ => wpAny (model X.prog X.w) X.A (f v u) Q X.xe s₂) X.xe s₁) X.xe s := by
  refine thn (ha pins s σ H _ I h) fun v s1 ⟨x, H1, I1, r1, q1⟩ => ?_
  refine thn (hb pins s1 σ H1 _ I1 q1) fun u s2 ⟨y, H2, I2, r2, q2⟩ => ?_
  exact hf v u s2 x y H2 I2 r1 r2 q2

theorem pe_op {op : Operator} {r : R2} (ho : OpR X (binaryOp op) r) (ha : PE X a ta) (hb : PE X b tb) : PE X (.BinOp a op b pos) (tOp r ta tb) := by
  intro pins s σ H Q I h
  exact wpAny_BinOp (binT ha hb I h fun v u s2 x y H2 I2 rx ry q => ho pins s2 σ H2 x y v u Q I2 rx ry q)
theorem pe_un {op : UnaryOp} {r : V → Hp → VK → Prop} (ho : UnR X (unaryOp op) r) (ha : PE X a ta) : PE X (.UnaryOp op a pos) (tUn r ta) := by
  intro pins s σ H Q I h
  exact UnaryOp_ (thn (ha pins s σ H _ I h) fun v s1 ⟨x, H1, I1, r1, q1⟩ => ho pins s1 σ H1 x v Q I1 r1 q1)
/-! ### ints -/
theorem opI {f : Value → Value → Sem Value} {C : Int → Int → Prop} {g : Int → Int → Int}
    (rule : ∀ (i j : Int) (t u : Tok) (s : Shared) (Q : Value → Shared → Prop) (E : Value → Shared → Prop), C i j → Q (.int (g i j) s.toks) { s with toks := s.toks + 1 } → wpAny (model X.prog X.w) X.A (f (.int i t) (.int j u)) Q E s) :
    OpR X f (rI C fun i j => .int (g i j)) := by
  intro pins s σ H x y v u Q I rx ry h
  obtain ⟨i, j, rfl, rfl, hc, q⟩ := h
  obtain ⟨t, rfl⟩ := rx
  obtain ⟨t', rfl⟩ := ry
  exact rule i j t t' s _ _ hc ⟨.int (g i j), H, I.tok _, ⟨_, rfl⟩, q⟩
theorem opI0 {f : Value → Value → Sem Value} {g : Int → Int → Int}
    (rule : ∀ (i j : Int) (t u : Tok) (s : Shared) (Q : Value → Shared → Prop) (E : Value → Shared → Prop), Q (.int (g i j) s.toks) { s with toks := s.toks + 1 } → wpAny (model X.prog X.w) X.A (f (.int i t) (.int j u)) Q E s) :
    OpR X f (rI0 fun i j => .int (g i j)) := by
  intro pins s σ H x y v u Q I rx ry h
  obtain ⟨i, j, rfl, rfl, q⟩ := h
  obtain ⟨t, rfl⟩ := rx
  obtain ⟨t', rfl⟩ := ry
  exact rule i j t t' s _ _ ⟨.int (g i j), H, I.tok _, ⟨_, rfl⟩, q⟩
theorem opB0 {f : Value → Value → Sem Value} {g : Int → Int → Bool}
    (rule : ∀ (i j : Int) (t u : Tok) (s : Shared) (Q : Value → Shared → Prop) (E : Value → Shared → Prop), Q (.bool (g i j)) s → wpAny (model X.prog X.w) X.A (f (.int i t) (.int j u)) Q E s) :
    OpR X f (rI0 fun i j => .bl (g i j)) := by
  intro pins s σ H x y v u Q I rx ry h
  obtain ⟨i, j, rfl, rfl, q⟩ := h
  obtain ⟨t, rfl⟩ := rx
  obtain ⟨t', rfl⟩ := ry
  exact rule i j t t' s _ _ ⟨.bl (g i j), H, I, rfl, q⟩

def CDiv (i j : Int) : Prop := 0 < j ∧ j < 1073741824
def CPow (i j : Int) : Prop := 0 ≤ j ∧ j ≤ 1000000 ∧ i.natAbs < 2 ^ 64
def CMul (i j : Int) : Prop := (-(2 ^ 64) < i ∧ i < 2 ^ 64) ∨ (-(2 ^ 64) < j ∧ j < 2 ^ 64)
theorem CMul.ok {i j : Int} (h : CMul i j) : IntMulOk i j := by
  rcases h with ⟨h1, h2⟩ | ⟨h1, h2⟩
  · exact .of_left (intBits_le_64 h1 h2)
  · exact .of_right (intBits_le_64 h1 h2)
theorem op_add : OpR X (binaryOp .Add) (rI0 fun i j => .int (i + j)) := opI0 fun _ _ _ _ _ _ _ q => add_int q
theorem op_sub : OpR X (binaryOp .Sub) (rI0 fun i j => .int (i - j)) := opI0 fun _ _ _ _ _ _ _ q => sub_int q
theorem op_mul : OpR X (binaryOp .Mult) (rI CMul fun i j => .int (i * j)) := opI fun _ _ _ _ _ _ _ hc q => mul_int q hc.ok
/-- // by a positive divisor -/
theorem op_fdiv : OpR X (binaryOp .FloorDiv) (rI CDiv fun i j => .int (i / j)) := opI fun i j _ _ _ _ _ hc q => by
  have h1 : (0 : Int) < j := hc.1
  have h2 : j < 1073741824 := hc.2
  exact floordiv_int (by omega) (by rw [Int.fdiv_eq_ediv_of_nonneg i (by omega)]; exact q) (.inl (PyProof.noPylong_small (by omega)))
/-- % by a positive divisor of any size -/
theorem op_mod : OpR X (binaryOp .Mod) (rI (fun _ j => 0 < j) fun i j => .int (i % j)) := opI fun i j _ _ _ _ _ hc q => by
  have h1 : (0 : Int) < j := hc
  exact mod_int' (by omega) (by rw [Int.fmod_eq_emod_of_nonneg i (by omega)]; exact q)
theorem op_pow : OpR X (binaryOp .Pow) (rI CPow fun i j => .int (i ^ j.toNat)) := opI fun _ _ _ _ _ _ _ hc q => pow_int_small hc.1 hc.2.1 hc.2.2 q
theorem unI {f : Value → Sem Value} {g : Int → Int}
    (rule : ∀ (i : Int) (t : Tok) (s : Shared) (Q : Value → Shared → Prop) (E : Value → Shared → Prop), Q (.int (g i) s.toks) { s with toks := s.toks + 1 } → wpAny (model X.prog X.w) X.A (f (.int i t)) Q E s) :
    UnR X f (rU fun i => .int (g i)) := by
  intro pins s σ H x v Q I rx h
  obtain ⟨i, rfl, q⟩ := h
  obtain ⟨t, rfl⟩ := rx
  exact rule i t s _ _ ⟨.int (g i), H, I.tok _, ⟨_, rfl⟩, q⟩
theorem un_neg : UnR X (unaryOp .USub) (rU fun i => .int (-i)) := unI fun _ _ _ _ _ q => neg_int q
/-! ### bools among ints: n += (a < b) -/
end

/-! ### comparisons -/
/-- the scalars that == tells apart as data does -/
def scal : V → V → Bool
  | .non, .non => true | .non, .int _ => true | .int _, .non => true | .non, .bl _ => true | .bl _, .non => true | .non, .str _ => true | .str _, .non => true
  | .int _, .int _ => true | .bl _, .bl _ => true | .str _, .str _ => true | .byt _, .byt _ => true
  | .int _, .str _ => true | .str _, .int _ => true | .bl _, .str _ => true | .str _, .bl _ => true
  | _, _ => false
def rEq : R2 := fun x y H Q => scal x y = true ∧ Q (.bl (decide (x = y))) H
def rNe : R2 := fun x y H Q => scal x y = true ∧ Q (.bl (!decide (x = y))) H

theorem dec_int {i j : Int} : decide (V.int i = V.int j) = (i == j) := by
  rw [Bool.eq_iff_iff]
  simp
theorem dec_bl {i j : Bool} : decide (V.bl i = V.bl j) = (i == j) := by
  rw [Bool.eq_iff_iff]
  simp
theorem dec_str {i j : Str} : decide (V.str i = V.str j) = (i == j) := by
  rw [Bool.eq_iff_iff]
  simp
theorem dec_byt {i j : Array UInt8} : decide (V.byt i = V.byt j) = (i.toList == j.toList) := by
  rw [Bool.eq_iff_iff]
  cases i
  cases j
  simp

section
variable {X : Cx} {a b c : Expr} {ta tb tc : TE} {pos : Pos}
theorem fin_bl {pins : List (Addr × Obj)} {σ : St} {H : Hp} {s : Shared} {Q : VK} {k k' : Bool} (I : Inv X pins σ H s) (q : Q (.bl k) H) (e : k = k') : EP X pins σ Q (.bool k') s := by
  subst e
  exact ⟨.bl k, H, I, rfl, q⟩
theorem op_eq : OpR X (compareOp .Eq) rEq := by
  intro pins s σ H x y v u Q I rx ry h
  obtain ⟨hs, q⟩ := h
  cases x with
  | non =>
    cases rx
    cases y with
    | non => cases ry; exact PySem.EqNone.eq_none_none (fin_bl I q (by simp))
    | bl j => cases ry; exact PySem.EqNone.eq_none_bool (fin_bl I q (by simp))
    | int j => obtain ⟨t', rfl⟩ := ry; exact PySem.EqNone.eq_none_int (fin_bl I q (by simp))
    | str j => obtain ⟨t', rfl⟩ := ry; exact PySem.EqNone.eq_none_str (fin_bl I q (by simp))
    | _ => exact absurd (show false = true from hs) Bool.false_ne_true
  | bl i =>
    cases rx
    cases y with
    | non => cases ry; exact PySem.EqNone.eq_bool_none (fin_bl I q (by simp))
    | bl j => cases ry; exact eq_bool (fin_bl I q dec_bl)
    | str j => obtain ⟨t', rfl⟩ := ry; exact PySem.EqMixed.eq_bool_str (fin_bl I q (by simp))
    | _ => exact absurd (show false = true from hs) Bool.false_ne_true
  | int i =>
    obtain ⟨t, rfl⟩ := rx
    cases y with
    | non => cases ry; exact PySem.EqNone.eq_int_none (fin_bl I q (by simp))
    | int j => obtain ⟨t', rfl⟩ := ry; exact eq_int (fin_bl I q dec_int)
    | str j => obtain ⟨t', rfl⟩ := ry; exact PySem.EqMixed.eq_int_str (fin_bl I q (by simp))
    | _ => exact absurd (show false = true from hs) Bool.false_ne_true
  | str i =>
    obtain ⟨t, rfl⟩ := rx
    cases y with
    | non => cases ry; exact PySem.EqNone.eq_str_none (fin_bl I q (by simp))
    | bl j => cases ry; exact PySem.EqMixed.eq_str_bool (fin_bl I q (by simp))
    | int j => obtain ⟨t', rfl⟩ := ry; exact PySem.EqMixed.eq_str_int (fin_bl I q (by simp))
    | str j => obtain ⟨t', rfl⟩ := ry; exact eq_str (fin_bl I q dec_str)
    | _ => exact absurd (show false = true from hs) Bool.false_ne_true
  | byt i =>
    obtain ⟨t, rfl⟩ := rx
    cases y with
    | byt j => obtain ⟨t', rfl⟩ := ry; exact PySem.W.eq_bytes (fin_bl I q dec_byt)
    | _ => exact absurd (show false = true from hs) Bool.false_ne_true
  | _ => cases y <;> exact absurd (show false = true from hs) Bool.false_ne_true
theorem op_ne : OpR X (compareOp .NotEq) rNe := by
  intro pins s σ H x y v u Q I rx ry h
  obtain ⟨hs, q⟩ := h
  cases x with
  | non =>
    cases rx
    cases y with
    | non => cases ry; exact PySem.EqNone.ne_none_none (fin_bl I q (by simp))
    | bl j => cases ry; exact PySem.EqNone.ne_none_bool (fin_bl I q (by simp))
    | int j => obtain ⟨t', rfl⟩ := ry; exact PySem.EqNone.ne_none_int (fin_bl I q (by simp))
    | str j => obtain ⟨t', rfl⟩ := ry; exact PySem.EqNone.ne_none_str (fin_bl I q (by simp))
    | _ => exact absurd (show false = true from hs) Bool.false_ne_true
  | bl i =>
    cases rx
    cases y with
    | non => cases ry; exact PySem.EqNone.ne_bool_none (fin_bl I q (by simp))
    | bl j => cases ry; exact ne_bool (fin_bl I q (congrArg not dec_bl))
    | str j => obtain ⟨t', rfl⟩ := ry; exact PySem.EqMixed.ne_bool_str (fin_bl I q (by simp))
    | _ => exact absurd (show false = true from hs) Bool.false_ne_true
  | int i =>
    obtain ⟨t, rfl⟩ := rx
    cases y with
    | non => cases ry; exact PySem.EqNone.ne_int_none (fin_bl I q (by simp))
    | int j => obtain ⟨t', rfl⟩ := ry; exact ne_int (fin_bl I q (congrArg not dec_int))
    | str j => obtain ⟨t', rfl⟩ := ry; exact PySem.EqMixed.ne_int_str (fin_bl I q (by simp))
    | _ => exact absurd (show false = true from hs) Bool.false_ne_true
  | str i =>
    obtain ⟨t, rfl⟩ := rx
    cases y with
    | non => cases ry; exact PySem.EqNone.ne_str_none (fin_bl I q (by simp))
    | bl j => cases ry; exact PySem.EqMixed.ne_str_bool (fin_bl I q (by simp))
    | int j => obtain ⟨t', rfl⟩ := ry; exact PySem.EqMixed.ne_str_int (fin_bl I q (by simp))
    | str j => obtain ⟨t', rfl⟩ := ry; exact ne_str (fin_bl I q (congrArg not dec_str))
    | _ => exact absurd (show false = true from hs) Bool.false_ne_true
  | byt i =>
    obtain ⟨t, rfl⟩ := rx
    cases y with
    | byt j => obtain ⟨t', rfl⟩ := ry; exact PySem.W.ne_bytes (fin_bl I q (congrArg not dec_byt))
    | _ => exact absurd (show false = true from hs) Bool.false_ne_true
  | _ => cases y <;> exact absurd (show false = true from hs) Bool.false_ne_true

theorem op_lt : OpR X (compareOp .Lt) (rI0 fun i j => .bl (decide (i < j))) := opB0 fun _ _ _ _ _ _ _ q => lt_int q
theorem op_gt : OpR X (compareOp .Gt) (rI0 fun i j => .bl (decide (j < i))) := opB0 fun _ _ _ _ _ _ _ q => gt_int q
theorem op_ge : OpR X (compareOp .GtE) (rI0 fun i j => .bl (decide (j ≤ i))) := opB0 fun _ _ _ _ _ _ _ q => ge_int q
/-- is None, is not None: the right side a value none -/
theorem op_isN : OpR X (compareOp .Is) (fun x y H Q => y = .non ∧ Q (.bl (decide (x = .non))) H) := by
  intro pins s σ H x y v u Q I rx ry h
  obtain ⟨rfl, q⟩ := h
  cases ry
  refine is_none_gen (fin_bl I q ?_)
  cases x <;> first
    | (cases rx; rfl)
    | (obtain ⟨t, rfl⟩ := rx; rfl)
theorem op_notN : OpR X (compareOp .IsNot) (fun x y H Q => y = .non ∧ Q (.bl (!decide (x = .non))) H) := by
  intro pins s σ H x y v u Q I rx ry h
  obtain ⟨rfl, q⟩ := h
  cases ry
  refine isnot_none_gen (fin_bl I q ?_)
  cases x <;> first
    | (cases rx; rfl)
    | (obtain ⟨t, rfl⟩ := rx; rfl)

/-- two rules for one operation: by cases -/
theorem OpR.or {f : Value → Value → Sem Value} {r r' : R2} (h : OpR X f r) (h' : OpR X f r') : OpR X f (fun x y H Q => r x y H Q ∨ r' x y H Q) := by
  intro pins s σ H x y v u Q I rx ry q
  rcases q with q | q
  · exact h pins s σ H x y v u Q I rx ry q
  · exact h' pins s σ H x y v u Q I rx ry q

theorem nomark (b : Expr) {op : CmpOp} (h : op ≠ .In := by decide) (h2 : op ≠ .NotIn := by decide) : behindInMarks op b = false := by
  have e1 : (op == CmpOp.In) = false := by cases op <;> first | rfl | exact absurd rfl h
  have e2 : (op == CmpOp.NotIn) = false := by cases op <;> first | rfl | exact absurd rfl h2
  cases b <;> simp [behindInMarks, e1, e2]
/-- a comparison as a value; hm: nomark b, or (for in, not in) by with_unfolding_all rfl -/
theorem pe_cmpR {op : CmpOp} {r : R2} (ho : OpR X (compareOp op) r) (ha : PE X a ta) (hb : PE X b tb) (hm : behindInMarks op b = false) : PE X (.Compare a [op] [b] pos) (tOp r ta tb) := by
  intro pins s σ H Q I h
  exact wpAny_Compare1 (binT ha hb I h fun v u s2 x y H2 I2 rx ry q => ho pins s2 σ H2 x y v u Q I2 rx ry q) hm
/-- a reading of a value as a test -/
def tTest (t : TE) : TT := fun σ H Q => t σ H fun x H' => ∃ k, x = .bl k ∧ Q k H'
theorem pt_cmpR {op : CmpOp} {r : R2} (ho : OpR X (compareOp op) r) (ha : PE X a ta) (hb : PE X b tb) (hm : behindInMarks op b = false) : PT X (.Compare a [op] [b] pos) (tTest (tOp r ta tb)) := by
  intro pins s σ H Q I h
  refine wpAny_isTrue_Compare1 (thn (ha pins s σ H _ I h) fun v s1 ⟨x, H1, I1, r1, q1⟩ => thn (hb pins s1 σ H1 _ I1 q1) fun u s2 ⟨y, H2, I2, r2, q2⟩ =>
    thn (ho pins s2 σ H2 x y v u _ I2 r1 r2 q2) fun c s3 ⟨z, H3, I3, r3, k, e, q3⟩ => ?_) hm
  subst e
  cases r3
  exact wpAny_truthy_bool ⟨H3, I3, q3⟩
/-- a op1 b op2 c -/
def tChain (r r' : R2) (ta tb tc : TE) : TE := fun σ H Q => ta σ H fun x H1 => tb σ H1 fun y H2 => r x y H2 fun z H3 => ∃ k, z = .bl k ∧
  (if k = true then tc σ H3 fun w' H4 => r' y w' H4 Q else Q (.bl false) H3)
/-! ### truth -/
theorem line63 : (sizeLine : Nat) < 2 ^ 63 := by rw [sizeLine_eq]; decide
/-! ### strs and bytes -/
/-! ### scalar builtins, by CallR -/
theorem vals1 {x : V} {us : List Value} (r : Vals [x] us) : ∃ u, us = [u] ∧ RelV x u := by
  cases r with
  | cons r1 r2 => cases r2; exact ⟨_, rfl, r1⟩
theorem vals2 {x y : V} {us : List Value} (r : Vals [x, y] us) : ∃ u w', us = [u, w'] ∧ RelV x u ∧ RelV y w' := by
  cases r with
  | cons r1 r2 =>
    cases r2 with
    | cons r3 r4 => cases r4; exact ⟨_, _, rfl, r1, r3⟩
theorem call_max2 (hc : X.calm = true) : CallR X (.builtin "max") (fun xs H Q => ∃ i j, xs = [.int i, .int j] ∧ Q (.int (if j > i then j else i)) H) := by
  intro pins s σ H xs us Q I r h
  obtain ⟨i, j, rfl, q⟩ := h
  obtain ⟨u, w', rfl, ⟨t, rfl⟩, ⟨t', rfl⟩⟩ := vals2 r
  refine max_two_ints (I.ok.hd hc) fun h' tk k => ⟨_, H, I.kept k, ?_, q⟩
  by_cases hj : j > i
  · rw [if_pos hj, if_pos hj]; exact ⟨_, rfl⟩
  · rw [if_neg hj, if_neg hj]; exact ⟨_, rfl⟩
theorem call_int1 : CallR X (.type "int") (fun xs H Q => (∃ i, xs = [.int i] ∧ Q (.int i) H) ∨ ∃ k, xs = [.bl k] ∧ Q (.int (if k then 1 else 0)) H) := by
  intro pins s σ H xs us Q I r h
  rcases h with ⟨i, rfl, q⟩ | ⟨k, rfl, q⟩
  · obtain ⟨u, rfl, t, rfl⟩ := vals1 r
    exact call_int_int ⟨.int i, H, I, ⟨_, rfl⟩, q⟩
  · obtain ⟨u, rfl, r1⟩ := vals1 r
    cases r1
    exact call_int_bool ⟨.int (if k then 1 else 0), H, I.tok _, ⟨_, rfl⟩, q⟩
end
end L2

namespace L2
open PySem PySem.Spec PyProof.Rows

/-! ### an instance, its attributes a map -/
structure ObjM (h : Heap) (x dx C : Addr) (mA : Str → Option Value) : Prop where
  obj : h.get? x = some (PySem.W.instObj C dx)
  ns : h.Ns1 dx mA
  ne : dx ≠ x

theorem lookIn_ns {h : Heap} {dx : Addr} {mA : Str → Option Value} (n : h.Ns1 dx mA) : ∃ od, h.get? dx = some od ∧ ∀ name, PySem.W.lookIn name od = some (mA name) := by
  obtain ⟨o, es, ep, ho, hd, hk, _, hm⟩ := n
  refine ⟨o, ho, fun name => ?_⟩
  have e := hm name
  unfold nsFind findBy at e
  rw [← Array.find?_toList] at e
  unfold PySem.W.lookIn
  rw [hd]
  dsimp only
  split
  · rename_i y q
    rw [q] at e
    exact congrArg some e
  · rename_i q
    rw [q] at e
    have a : es.toList.any (·.refKey) = false := by
      rw [List.any_eq_false]
      intro y hy
      obtain ⟨z, t, hkey⟩ := hk y (Array.mem_toList_iff.mp hy)
      simp [DictEntry.refKey, hkey]
    have a' : ¬ es.toList.any (·.refKey) = true := by rw [a]; exact Bool.false_ne_true
    rw [if_neg a']
    exact congrArg some e

theorem ObjM.look {h : Heap} {x dx C : Addr} {mA : Str → Option Value} (I : ObjM h x dx C mA) : ∃ od, PySem.W.InstAt h x (PySem.W.instObj C dx) C (some od) ∧ ∀ name, PySem.W.lookIn name od = some (mA name) :=
  let ⟨od, ho, hl⟩ := lookIn_ns I.ns
  ⟨od, ⟨I.obj, rfl, rfl, ho⟩, hl⟩

section
variable {prog : Program} {w : World} {A : Around} {E : Value → Shared → Prop} {s : Shared} {K : PySem.W.Frag} {x dx C f : Addr} {mA : Str → Option Value} {name : Str} {v : Value}

end

/-! ### the attributes as a list of pairs -/
section
variable {P : Program} {w : World} {H H' : Hp} {h h' : Heap} {a C dx : Addr} {fs fs' : List (Str × V)}
theorem ins_get (hok : HOk P w H h) (e : H a = some (.ins C dx fs)) : ∃ mA, ObjM h a dx C mA ∧ (∀ f, RelO (fs.lookup f) (mA f)) ∧ PySem.Within mA (fs.map (·.1)) ∧ fs.length ≤ 1000 ∧ H dx = some (.own a) := by
  obtain ⟨d, z, ne, ob, mA, n, r, q⟩ := (show ObjOk P w H h a (.ins C dx fs) from hok a _ e)
  exact ⟨mA, ⟨ob, n, ne⟩, r, q, z, d⟩
end

/-! ### what of the text a class must have -/
structure Cls (K : PySem.W.Frag) (C : Addr) : Prop where
  pg : PySem.W.plainGet K C Str.empty = true
  hd : PySem.W.hasDictIn K C = true
  po : PySem.W.plainOver K C = true
  sa : PySem.W.findIn K (.ref C) "__setattr__" = some (some (.builtin "object.__setattr__"))
theorem Cls.get {K : PySem.W.Frag} {C : Addr} (c : Cls K C) (f : Str) : PySem.W.plainGet K C f = true := c.pg
section
variable {X : Cx} {pins : List (Addr × Obj)} {σ : St} {H : Hp} {s : Shared} {a C dx : Addr} {fs : List (Str × V)} {f : Str} {v : V} {A : Around} {E : Value → Shared → Prop}

/-- a new instance, tracked, without attributes -/
theorem Inv.made (I : Inv X pins σ H s) : Inv X pins σ (upd (upd H s.heap.objs.size (.own (s.heap.objs.size + 1))) (s.heap.objs.size + 1) (.ins C s.heap.objs.size []))
    { s with heap := (s.heap.push PySem.W.emptyDict).push (PySem.W.instObj C s.heap.objs.size) } := by
  have e1 : (s.heap.push PySem.W.emptyDict).get? s.heap.objs.size = some PySem.W.emptyDict := Heap.get?_push_size s.heap rfl
  have e2 : ((s.heap.push PySem.W.emptyDict).push (PySem.W.instObj C s.heap.objs.size)).get? (s.heap.objs.size + 1) = some (PySem.W.instObj C s.heap.objs.size) := by
    have := Heap.get?_push_size (s.heap.push PySem.W.emptyDict) (o := PySem.W.instObj C s.heap.objs.size) rfl
    rwa [Heap.size_push] at this
  have e3 : (s.heap.push PySem.W.emptyDict).Ns s.heap.objs.size (fun _ => none) := ⟨PySem.W.emptyDict, #[], _, e1, rfl, (fun e he => absurd he (by simp)), fun _ => rfl⟩
  have I1 := I.laid (a := s.heap.objs.size) (o := .own (s.heap.objs.size + 1)) (h' := s.heap.push PySem.W.emptyDict) (t' := s.toks) (fun b u q => Heap.get?_push_of_some _ q) (Nat.le_refl _) ⟨_, e1⟩
  refine I1.laid (a := s.heap.objs.size + 1) (o := .ins C s.heap.objs.size []) (t' := s.toks) (fun b u q => Heap.get?_push_of_some _ q) (Nat.le_of_eq (Heap.size_push _ _)) ?_
  have ne : s.heap.objs.size ≠ s.heap.objs.size + 1 := Nat.ne_of_lt (Nat.lt_succ_self _)
  refine ⟨by rw [upd_ne ne, upd_same], Nat.zero_le _, ne, e2, fun _ => none, (Heap.Ns1.of_empty e3).at fun o q => Heap.get?_push_of_some _ q, fun _ => True.intro, fun y hy => absurd rfl hy⟩

end

/-! ### readings and rules -/
section
variable {X : Cx} {o e value : Expr} {f : Str} {pos pos' tpos : Pos} {ta tv : TE}
end

/-! ### isinstance -/
section
variable {X : Cx} {pins : List (Addr × Obj)} {σ : St} {H : Hp} {s : Shared} {A : Around} {E : Value → Shared → Prop} {Q : Value → Shared → Prop} {c : Value} {b : Bool}
/-- the type of a value, as the fragment's deciders take it; for an instance its class -/
inductive TyOf (K : PySem.W.Frag) (H : Hp) : V → Value → Prop where
  | non : TyOf K H .non (.type "NoneType")
  | bl (x : Bool) : TyOf K H (.bl x) (.type "bool")
  | int (i : Int) : TyOf K H (.int i) (.type "int")
  | str (x : Str) : TyOf K H (.str x) (.type "str")
  | flt (x : UInt64) : TyOf K H (.flt x) (.type "float")
  | lst {a : Addr} {xs : List V} (e : H a = some (.lst xs)) : TyOf K H (.ref a) (.type "list")
  | frz {a : Addr} {o : Obj} {xs : List V} (e : H a = some (.frz o (.lst xs))) : TyOf K H (.ref a) (.type "list")
  | tup {a : Addr} {xs : List V} (e : H a = some (.tup xs)) : TyOf K H (.ref a) (.type "tuple")
  | dK {a : Addr} {kvs : List (Key × V)} (e : H a = some (.dK kvs)) : TyOf K H (.ref a) (.type "dict")
  | dT {a : Addr} {kvs : List (List Key × V)} (e : H a = some (.dT kvs)) : TyOf K H (.ref a) (.type "dict")
  | ins {a C dx : Addr} {fs : List (Str × V)} (e : H a = some (.ins C dx fs)) (cl : Cls K C) (ha : PySem.W.findIn K (.ref C) "__class__" = some (some (.builtin "object.__class__")))
      (hn : PySem.W.specialIn K (.builtin "object.__class__") "__get__" = some (some (.builtin "getset_descriptor.__get__"))) (htk : PySem.W.takesIn K (.builtin "object.__class__") = some true)
      (hm : PySem.W.mroIn K C (.type "object") = some true) : TyOf K H (.ref a) (.ref C)
/-- isinstance(x, c) for one class c, a built-in or an own one: kitOne's answer -/
theorem isinst_ok {x : V} {u t : Value} (I : Inv X pins σ H s) (rx : RelV x u) (ty : TyOf X.K H x t) (e : PySem.W.kitOne X.K t c = some b) (h : ∀ tk, Q (.bool b) { s with toks := tk }) :
    wpAny (model X.prog X.w) A (call (.builtin "isinstance") [u, c]) Q E s := by
  cases ty with
  | non => cases (show u = Value.none from rx); exact PySem.W.kia_one PySem.W.kitx_none I.kIn True.intro e (fun z => nomatch z) h
  | bl y => cases (show u = Value.bool y from rx); exact PySem.W.kia_one PySem.W.kitx_bool I.kIn True.intro e (fun z => nomatch z) h
  | int i => obtain ⟨t, q⟩ := (show ∃ t, u = Value.int i t from rx); cases q; exact PySem.W.kia_one PySem.W.kitx_int I.kIn True.intro e (fun z => nomatch z) h
  | str y => obtain ⟨t, q⟩ := (show ∃ t, u = Value.str y t from rx); cases q; exact PySem.W.kia_one PySem.W.kitx_str I.kIn True.intro e (fun z => nomatch z) h
  | flt y => obtain ⟨t, q⟩ := (show ∃ t, u = Value.float y t from rx); cases q; exact PySem.W.kia_one PySem.W.kitx_float I.kIn True.intro e (fun z => nomatch z) h
  | @lst a xs ea =>
    cases (show u = Value.ref a from rx)
    obtain ⟨_, _, n, _, h1⟩ := (show ObjOk X.prog X.w H s.heap a (.lst xs) from I.hok a _ ea)
    exact PySem.W.kia_one PySem.W.kitx_list I.kIn ⟨_, h1, rfl⟩ e (fun z => nomatch z) h
  | @frz a ob xs ea =>
    cases (show u = Value.ref a from rx)
    obtain ⟨_, _, _, n, _, h1⟩ := (show ObjOk X.prog X.w H s.heap a (.frz ob (.lst xs)) from I.hok a _ ea)
    exact PySem.W.kia_one PySem.W.kitx_list I.kIn ⟨_, h1, rfl⟩ e (fun z => nomatch z) h
  | @tup a xs ea =>
    cases (show u = Value.ref a from rx)
    obtain ⟨_, _, _, p⟩ := (show ObjOk X.prog X.w H s.heap a (.tup xs) from I.hok a _ ea)
    obtain ⟨o, h1, h2, _⟩ := p
    exact PySem.W.kia_one PySem.W.kitx_tuple I.kIn ⟨o, h1, h2⟩ e (fun z => nomatch z) h
  | @dK a kvs ea =>
    cases (show u = Value.ref a from rx)
    obtain ⟨_, _, vs, _, p⟩ := (show ObjOk X.prog X.w H s.heap a (.dK kvs) from I.hok a _ ea)
    obtain ⟨o, es, ep, h1, h2, _⟩ := p
    exact PySem.W.kia_one PySem.W.kitx_dict I.kIn ⟨o, h1, h2.1⟩ e (fun z => nomatch z) h
  | @dT a kvs ea =>
    cases (show u = Value.ref a from rx)
    obtain ⟨_, _, xs, _, o, es, ep, h1, h2, _⟩ := (show ObjOk X.prog X.w H s.heap a (.dT kvs) from I.hok a _ ea)
    exact PySem.W.kia_one PySem.W.kitx_dict I.kIn ⟨o, h1, h2.1⟩ e (fun z => nomatch z) h
  | @ins a C dx fs ea cl ha hn htk hm =>
    cases (show u = Value.ref a from rx)
    obtain ⟨mA, O, _⟩ := ins_get I.hok ea
    obtain ⟨od, J, _⟩ := O.look
    exact PySem.W.kia_one (PySem.W.kitx_own (cl.get _) cl.hd ha hn htk hm) I.kIn J e (fun z => nomatch z) h
end
end L2

namespace L2
open PySem PySem.Spec PyProof.Rows

/-! ### room -/
structure Room (k : Nat) (A : Around) : Prop where
  hd : A.handled = none
  dp : A.depth + 3 * k + 5 < recursionLimit
  un : A.units + 16 * k + 200 < cLine
theorem Room.mono {j k : Nat} {A : Around} (r : Room k A) (h : j ≤ k) : Room j A := ⟨r.hd, by have := r.dp; omega, by have := r.un; omega⟩
theorem Room.deeper {k : Nat} {A : Around} (r : Room (k + 1) A) (env : Env) : Room k (A.deeper env) :=
  ⟨r.hd, by have := r.dp; show A.depth + 1 + 3 * k + 5 < _; omega, by have := r.un; show A.units + 3 + 16 * k + 200 < _; omega⟩
theorem Room.in1 {k : Nat} {A : Around} (r : Room (k + 1) A) : Room k A.in1 :=
  ⟨r.hd, by have := r.dp; show A.depth + 3 * k + 5 < _; omega, by have := r.un; show A.units + 1 + 16 * k + 200 < _; omega⟩
theorem Room.depth {k : Nat} {A : Around} (r : Room k A) : A.depth < recursionLimit := by have := r.dp; omega
theorem Room.units {k : Nat} {A : Around} (r : Room k A) : A.units + 64 < cLine := by have := r.un; omega
/-! ### argument lists and displays -/
def tNil : TA := fun _ H Q => Q [] H
def tCons (ta : TE) (tr : TA) : TA := fun σ H Q => ta σ H fun x H1 => tr σ H1 fun xs H2 => Q (x :: xs) H2
section
variable {X : Cx} {e : Expr} {es : List Expr} {te : TE} {t : TA} {pos : Pos}
theorem pa_nil : PA X [] tNil := fun _ _ _ _ H Q I h => Calls.spliced_nil ⟨[], H, I, .nil, h⟩
theorem pa_cons (ha : PE X e te) (hr : PA X es t) (hs : starEach (e :: es) X.env = (false, eval e X.env) :: starEach es X.env := by rfl) : PA X (e :: es) (tCons te t) := by
  intro pos pins s σ H Q I h
  rw [hs]
  show wpAny _ _ (spliced ((false, eval e X.env) :: backTo pos (starEach es X.env))) _ _ s
  refine Calls.spliced_cons (thn (ha pins s σ H _ I h) fun u s1 ⟨x, H1, I1, r1, q1⟩ => ?_)
  exact thn (hr pos pins s1 σ H1 _ I1 q1) fun us s2 ⟨xs, H2, I2, r2, q2⟩ => ⟨x :: xs, H2, I2, .cons r1 r2, q2⟩

/-- a tuple, a list of written items -/
def tTup (t : TA) : TE := fun σ H Q => t σ H fun xs H1 => xs.length ≤ sizeLine ∧ ∀ p, H1 p = none → Q (.ref p) (upd H1 p (.tup xs))
def tLst (t : TA) : TE := fun σ H Q => t σ H fun xs H1 => xs.length ≤ sizeLine ∧ ∀ p, H1 p = none → Q (.ref p) (upd H1 p (.lst xs))
theorem pe_tup {x1} (h : PA X es t) : PE X (.Tuple es x1 pos) (tTup t) := by
  intro pins s σ H Q I hq
  refine wpAny_Tuple_spliced (thn (h pos pins s σ H _ I hq) fun us s1 ⟨xs, H1, I1, r, z, q⟩ => ⟨by rw [← r.length]; exact z, ?_⟩)
  have hf : H1 s1.heap.objs.size = none := I1.hok.fresh (Nat.le_refl _)
  refine ⟨.ref s1.heap.objs.size, upd H1 s1.heap.objs.size (.tup xs), I1.laid (t' := s1.toks) (fun b u e => Heap.get?_push_of_some _ e) (Nat.le_refl _) ?_, rfl, q _ hf⟩
  exact ⟨z, us, r, ⟨_, Heap.get?_push_size _ rfl, rfl, _, rfl, rfl⟩⟩
theorem pe_lst (h : PA X es t) : PE X (.List es pos) (tLst t) := by
  intro pins s σ H Q I hq
  refine wpAny_List_spliced (thn (h pos pins s σ H _ I hq) fun us s1 ⟨xs, H1, I1, r, z, q⟩ => ⟨by rw [← r.length]; exact z, ?_⟩)
  have hf : H1 s1.heap.objs.size = none := I1.hok.fresh (Nat.le_refl _)
  refine ⟨.ref s1.heap.objs.size, upd H1 s1.heap.objs.size (.lst xs), I1.laid (t' := s1.toks) (fun b u e => Heap.get?_push_of_some _ e) (Nat.le_refl _) ?_, rfl, q _ hf⟩
  exact ⟨z, us, 0, r, Heap.get?_push_size _ rfl⟩
end

/-! ### what a def promises -/
/-- a def's promise: the bound arguments in the parameters' order, the heap, the wanted end, the wanted exception -/
abbrev Sp := List V → Hp → VK → XK → Prop
/-- how an exception lies behind a call (file 08 gives it): the callers' frames, abstract heap and state ahead of the call, the wish, the exception, the state -/
abbrev CXT := List Env → Hp → Shared → XK → Value → Shared → Prop

/-- the state at a call -/
structure Env0 (P : Program) (w : World) (K : PySem.W.Frag) (mg : Str → Option Value) (base : Heap) (A : Around) (outer : List Env) (s : Shared) (H : Hp) : Prop where
  frames : A.frames = some outer
  mod : Mod K mg base
  bs : ∀ b o, base.get? b = some o → s.heap.get? b = some o ∧ H b = none
  bsz : base.objs.size ≤ s.heap.objs.size
  funs : s.heap.FunFrames base outer
  frf : ∀ b ∈ frs outer, H b = none
  hok : HOk P w H s.heap
  bare : AllBare s.gens
/-- a call's end -/
def CE (outer : List Env) (P : Program) (w : World) (H : Hp) (s : Shared) (Q : VK) (u : Value) (s' : Shared) : Prop :=
  ∃ v H', s'.os = s.os ∧ AllBare s'.gens ∧ Un (frs outer) [] H H' s.heap s'.heap ∧ HOk P w H' s'.heap ∧ RelV v u ∧ Q v H'
def CR (CX : CXT) (outer : List Env) (P : Program) (w : World) (H : Hp) (s : Shared) (Q : VK) (E : XK) (r : Result) (s' : Shared) : Prop :=
  match r with
  | .ok (.ret u) => CE outer P w H s Q u s'
  | .ok _ => False
  | .error e => CX outer H s E e s'
structure FnOk (P : Program) (w : World) (K : PySem.W.Frag) (mg : Str → Option Value) (base : Heap) (CX : CXT) (k : Nat) (f : Addr) (fd : FuncData) (ps : List Str) (sp : Sp) : Prop where
  len : ∀ vs H Q E, sp vs H Q E → vs.length = ps.length
  run : ∀ (A : Around) (outer : List Env) (s : Shared) (H : Hp) (args : Args) (us : List Value) (vs : List V) (Q : VK) (E : XK), Room k A → Env0 P w K mg base A outer s H → BindsTo s fd args (ps.zip us) → Vals vs us → sp vs H Q E →
    codeAny (model P w) A (.call (.ref f) args) (CR CX outer P w H s Q E) s
theorem FnOk.mono {P : Program} {w : World} {K : PySem.W.Frag} {mg : Str → Option Value} {base : Heap} {CX : CXT} {j k : Nat} {f : Addr} {fd : FuncData} {ps : List Str} {sp : Sp} (F : FnOk P w K mg base CX j f fd ps sp) (h : j ≤ k) :
    FnOk P w K mg base CX k f fd ps sp := ⟨F.len, fun A outer s H args us vs Q E hr => F.run A outer s H args us vs Q E (hr.mono h)⟩
/-- a weaker promise -/
theorem FnOk.imp {P : Program} {w : World} {K : PySem.W.Frag} {mg : Str → Option Value} {base : Heap} {CX : CXT} {k : Nat} {f : Addr} {fd : FuncData} {ps : List Str} {sp sp' : Sp} (F : FnOk P w K mg base CX k f fd ps sp)
    (h : ∀ vs H Q E, sp' vs H Q E → sp vs H Q E) : FnOk P w K mg base CX k f fd ps sp' :=
  ⟨fun vs H Q E q => F.len vs H Q E (h _ _ _ _ q), fun A outer s H args us vs Q E hr he hb hv hs => F.run A outer s H args us vs Q E hr he hb hv (h _ _ _ _ hs)⟩

theorem Env0.in1 {P : Program} {w : World} {K : PySem.W.Frag} {mg : Str → Option Value} {base : Heap} {A : Around} {outer : List Env} {s : Shared} {H : Hp} (e : Env0 P w K mg base A outer s H) :
    Env0 P w K mg base A.in1 outer s H := ⟨e.frames, e.mod, e.bs, e.bsz, e.funs, e.frf, e.hok, e.bare⟩

section
variable {X : Cx} {pins : List (Addr × Obj)} {σ : St} {H : Hp} {s s' : Shared}
/-- from a body: what a callee wants -/
theorem Inv.env0 (I : Inv X pins σ H s) : Env0 X.prog X.w X.K X.mg X.base X.A X.stack s H :=
  ⟨I.ok.frames, I.ok.mod, I.bs, Nat.le_trans I.ok.bsz I.sz, I.stack, I.stkFree, I.hok, I.bare⟩
/-- behind a call -/
theorem Inv.after {Q : VK} {u : Value} (I : Inv X pins σ H s) (h : CE X.stack X.prog X.w H s Q u s') : EP X pins σ Q u s' := by
  obtain ⟨v, H', os, bare, un, hok, r, q⟩ := h
  obtain ⟨hh, g, d, t, os'⟩ := s'
  obtain rfl : os' = s.os := os
  exact ⟨v, H', I.call (h' := hh) (g' := g) (d' := d) (t' := t) (ch := []) un hok bare (fun b z => absurd z (by simp)), r, q⟩
end

/-! ### calls -/
/-- f(..): the written arguments, then the defaults dvs; E: what is wanted of an exception -/
def tCall (sp : Sp) (dvs : List V) (E : XK) (t : TA) : TE := fun σ H Q => t σ H fun vs H1 => sp (vs ++ dvs) H1 Q E
/-- how the parameters are bound: us the positional arguments, kw the keywords' values by name, ds the defaults that fill up -/
def Binds (K : PySem.W.Frag) (fd : FuncData) (ps : List Str) (ds : List Value) : Prop :=
  ∀ (s : Shared) (us : List Value), K.In s.heap → (us ++ ds).length = ps.length → BindsTo s fd ⟨us, []⟩ (ps.zip (us ++ ds))
/-- every parameter is given -/
theorem Binds.all {K : PySem.W.Frag} {fd : FuncData} {ps : List Str} (h : ∀ us : List Value, us.length = ps.length → bindArgs fd ⟨us, []⟩ = pure (ps.zip us)) : Binds K fd ps [] := fun s us _ hl => by
  rw [List.append_nil] at hl ⊢
  exact .of_eq (h us hl)

/-- an exception of a callee reaches what this body wants of exceptions -/
def Passes (CX : CXT) (X : Cx) (E : XK) : Prop := ∀ (pins : List (Addr × Obj)) (σ : St) (H : Hp) (s : Shared) (e : Value) (s' : Shared), Inv X pins σ H s → CX X.stack H s E e s' → X.xe e s'

section
variable {X : Cx} {CX : CXT} {k : Nat} {f C : Addr} {fd : FuncData} {ps : List Str} {sp : Sp} {dvs : List V} {ds : List Value} {E : XK} {x m : Str} {p pos apos : Pos} {e o : Expr} {es : List Expr} {ta : TE} {t : TA}

/-- the callee runs -/
theorem run_fn {pins : List (Addr × Obj)} {σ : St} {H : Hp} {s : Shared} {Q : VK} {us : List Value} {vs : List V} (F : FnOk X.prog X.w X.K X.mg X.base CX k f fd ps sp) (hr : Room k X.A) (hb : Binds X.K fd ps ds) (hd : Vals dvs ds) (hx : Passes CX X E)
    (I : Inv X pins σ H s) (r : Vals vs us) (h : sp (vs ++ dvs) H Q E) : wpAny (model X.prog X.w) X.A (call (.ref f) us) (EP X pins σ Q) X.xe s := by
  have r2 : Vals (vs ++ dvs) (us ++ ds) := r.append hd
  have hl : (us ++ ds).length = ps.length := by rw [← r2.length]; exact F.len _ _ _ _ h
  refine wpAny_call (codeAny_mono (F.run X.A X.stack s H ⟨us, []⟩ (us ++ ds) (vs ++ dvs) Q E hr I.env0 (hb s us I.kIn hl) r2 h) fun r s' hq => ?_)
  cases r with
  | error e => exact hx pins σ H s e s' I hq
  | ok fl =>
    cases fl with
    | ret u => exact I.after hq
    | next => exact False.elim hq
    | brk => exact False.elim hq
    | cont => exact False.elim hq

theorem pe_call (F : FnOk X.prog X.w X.K X.mg X.base CX k f fd ps sp) (hr : Room k X.A) (hg : Gl X x) (hm : X.mg x = some (.ref f)) (hk : PySem.W.keepIn X.K (.ref f) = true) (hb : Binds X.K fd ps ds) (hd : Vals dvs ds) (hx : Passes CX X E)
    (ha : PA X (e :: es) t) (hdb : (x == ("__debug__" : Str)) = false := by decide) (he : starEach (e :: es) X.env = (false, eval e X.env) :: starEach es X.env := by rfl) (hpl : (backTo pos (starEach es X.env)).any (·.1) = false := by rfl) :
    PE X (.Call (.Name x p) (e :: es) [] pos) (tCall sp dvs E t) := by
  intro pins s σ H Q I h
  refine wpAny_Call_Name_kw (ld_glob I hg hm ?_ hdb)
  refine PySem.W.callWith_K (h₀ := X.base) I.ok.mod.kin hk (thn (ha pos pins s σ H _ I h) fun us s1 ⟨vs, H1, I1, r, q⟩ => ⟨I1.kIn, ?_⟩) he hpl
  exact run_fn F hr hb hd hx I1 r q
end

/-! ### keywords -/
/-- the values of the keywords, from the left -/
def PK (X : Cx) (kws : List Keyword) (t : TA) : Prop :=
  ∀ (pos : Pos) (pins : List (Addr × Obj)) (s : Shared) (σ : St) (H : Hp) (Q : List V → Hp → Prop), Inv X pins σ H s → t σ H Q → wpAny (model X.prog X.w) X.A (evalAll ((backToKw pos (keywordEach kws X.env)).map (·.2))) (AP X pins σ Q) X.xe s
section
variable {X : Cx} {CX : CXT} {k : Nat} {f C : Addr} {fd : FuncData} {ps ks : List Str} {sp : Sp} {E : XK} {x m : Str} {p pos apos kpos : Pos} {e o : Expr} {es : List Expr} {kws : List Keyword} {te ta : TE} {t tk : TA} {nm : Option Str}
theorem pk_nil : PK X [] tNil := fun _ _ _ _ H Q I h => wpAny_evalAll_nil ⟨[], H, I, .nil, h⟩
theorem pk_cons (ha : PE X e te) (hr : PK X kws t) : PK X (⟨nm, e, kpos⟩ :: kws) (tCons te t) := by
  intro pos pins s σ H Q I h
  show wpAny _ _ (evalAll ((do let v ← eval e X.env; standAt pos; pure v) :: (backToKw pos (keywordEach kws X.env)).map (·.2))) _ _ s
  refine wpAny_evalAll_cons (wpAny_bind (thn (ha pins s σ H _ I h) fun u s1 ⟨x, H1, I1, r1, q1⟩ => wpAny_bind (wpAny_standAt (wpAny_pure ?_))))
  exact thn (hr pos pins s1 σ H1 _ I1 q1) fun us s2 ⟨xs, H2, I2, r2, q2⟩ => ⟨x :: xs, H2, I2, .cons r1 r2, q2⟩

variable {g : List Value → List Value → List Value} {gV : List V → List V → List V}
end

/-! ### a def's body keeps its promise -/
/-- names: the parameters first -/
structure FnScope (N P : List Str) (sc : Scope) : Prop where
  kind : sc.kind = .function
  co : sc.isCoroutine = false
  gen : sc.isGenerator = false
  nd : N.Nodup
  pre : N.take P.length = P
  par : ∀ x ∈ P, sc.names.lookup x = some .local ∨ sc.names.lookup x = some .cell
  nofree : ∀ y ∈ sc.names, y.2 ≠ .free

theorem bindL_out {kindOf : Str → Option NameKind} {x : Str} : ∀ {binds : List (Str × Value)} {m : Str → Option Value}, (∀ v, (x, v) ∉ binds) → bindL kindOf binds m x = m x
  | [], _, _ => rfl
  | (n, v) :: r, m, h => by
    unfold bindL
    rw [bindL_out fun w hw => h w (List.mem_cons_of_mem _ hw)]
    split
    · have : x ≠ n := by rintro rfl; exact h v List.mem_cons_self
      simp [this]
    · rfl
theorem bindC_out {kindOf : Str → Option NameKind} {x : Str} : ∀ {binds : List (Str × Value)} {m : Str → Option Value}, (∀ v, (x, v) ∉ binds) → bindC kindOf binds m x = m x
  | [], _, _ => rfl
  | (n, v) :: r, m, h => by
    unfold bindC
    rw [bindC_out fun w hw => h w (List.mem_cons_of_mem _ hw)]
    split
    · rfl
    · have : x ≠ n := by rintro rfl; exact h v List.mem_cons_self
      simp [this]
theorem bindL_get {kindOf : Str → Option NameKind} {x : Str} {v : Value} : ∀ {P : List Str} {vs : List Value} {i : Nat} {m : Str → Option Value}, P.Nodup → P[i]? = some x → vs[i]? = some v → kindOf x = some .local →
    bindL kindOf (P.zip vs) m x = some v
  | [], _, _, _, _, h, _, _ => by simp at h
  | _ :: _, [], _, _, _, _, h, _ => by simp at h
  | p :: P, w :: vs, 0, m, nd, h1, h2, hk => by
    simp at h1 h2; subst h1; subst h2
    show bindL kindOf ((p, w) :: P.zip vs) m p = _
    unfold bindL
    rw [bindL_out fun v hv => (List.nodup_cons.mp nd).1 (List.of_mem_zip hv).1, if_pos hk]
    simp
  | p :: P, w :: vs, i + 1, m, nd, h1, h2, hk => by
    show bindL kindOf ((p, w) :: P.zip vs) m x = _
    unfold bindL
    exact bindL_get (i := i) (List.nodup_cons.mp nd).2 (by simpa using h1) (by simpa using h2) hk
theorem bindC_get {kindOf : Str → Option NameKind} {x : Str} {v : Value} : ∀ {P : List Str} {vs : List Value} {i : Nat} {m : Str → Option Value}, P.Nodup → P[i]? = some x → vs[i]? = some v → kindOf x ≠ some .local →
    bindC kindOf (P.zip vs) m x = some v
  | [], _, _, _, _, h, _, _ => by simp at h
  | _ :: _, [], _, _, _, _, h, _ => by simp at h
  | p :: P, w :: vs, 0, m, nd, h1, h2, hk => by
    simp at h1 h2; subst h1; subst h2
    show bindC kindOf ((p, w) :: P.zip vs) m p = _
    unfold bindC
    rw [bindC_out fun v hv => (List.nodup_cons.mp nd).1 (List.of_mem_zip hv).1, if_neg hk]
    simp
  | p :: P, w :: vs, i + 1, m, nd, h1, h2, hk => by
    show bindC kindOf ((p, w) :: P.zip vs) m x = _
    unfold bindC
    exact bindC_get (i := i) (List.nodup_cons.mp nd).2 (by simpa using h1) (by simpa using h2) hk

/-- the names' values at the entry -/
def start (N : List Str) (vs : List V) : St := vs.map some ++ List.replicate (N.length - vs.length) none

/-- the context of a def's body, at its entry; an exception leaves the frame, then lies as CX says -/
def cxOf (CX : CXT) (P : Program) (w : World) (K : PySem.W.Frag) (mg : Str → Option Value) (base : Heap) (N : List Str) (qual : Str) (scope : Scope) (f : Addr) (cd : Value) (A : Around) (outer : List Env) (s : Shared) (H : Hp) (E : XK) : Cx where
  prog := P
  w := w
  K := K
  mg := mg
  base := base
  A := A.deeper (envOfC qual scope s.heap.objs.size f cd)
  N := N
  s₀ := s
  H₀ := H
  env := envOfC qual scope s.heap.objs.size f cd
  outer := outer
  stack := envOfC qual scope s.heap.objs.size f cd :: outer
  ex := []
  calm := true
  fn := fun _ => true
  pn := []
  xe := fun e s' => wpAny (model P w) (A.deeper (envOfC qual scope s.heap.objs.size f cd)) (leaving (envOfC qual scope s.heap.objs.size f cd) e) (fun _ s'' => CX outer H s E e s'') (fun e' s'' => CX outer H s E e' s'') s'

theorem cell_has {sc : Scope} {n : Nat} {x : Str} (h : sc.names.lookup x = some .cell) : ∃ c, (cellsFrom n sc.names []).lookup x = some c := by
  have q := PySem.W.cellsFrom_some sc.names n [] (.inl h)
  exact Option.isSome_iff_exists.mp q

theorem inv_start {CX : CXT} {P : Program} {w : World} {K : PySem.W.Frag} {mg : Str → Option Value} {base : Heap} {N ps : List Str} {qual : Str} {scope : Scope} {f : Addr} {cd : Value} {A : Around} {outer : List Env} {s s1 : Shared} {H : Hp} {E : XK} {us : List Value} {vs : List V}
    (S : FnScope N ps scope) (hd : A.handled = none) (e0 : Env0 P w K mg base A outer s H) (hl : vs.length = ps.length) (r : Vals vs us)
    (x : InCallC s s.heap.objs.size (bindL (envOfC qual scope s.heap.objs.size f cd).kindOf (ps.zip us) fun _ => none) (cellsFrom (s.heap.objs.size + 1) scope.names []) (bindC (envOfC qual scope s.heap.objs.size f cd).kindOf (ps.zip us) fun _ => none) s1) :
    Inv (cxOf CX P w K mg base N qual scope f cd A outer s H E) [] (start N vs) H s1 := by
  have hpl : ps.length ≤ N.length := by have := congrArg List.length S.pre; rw [List.length_take] at this; omega
  obtain ⟨h1, tk, rfl, hk⟩ := x.done
  have noA : ∀ b : Addr, b ∉ (cxOf CX P w K mg base N qual scope f cd A outer s H E).ex := fun b z => absurd (show b ∈ ([] : List Addr) from z) (by simp)
  refine ⟨⟨e0.mod, S.kind, rfl, rfl, Nat.le_refl _, fun y z c h1 h2 => ?_, fun y hy => ?_, fun y c _ h => ?_, fun _ => hd, Around.frames_deeper e0.frames, .inr ⟨rfl, rfl⟩, fun b z => absurd z (noA b), e0.bs, e0.bsz, fun b _ _ => noA b, fun b z => absurd z (noA b), e0.funs, e0.frf⟩,
    rfl, e0.bare, Un.kept hk, ⟨_, x.toInCall.ns, fun i y v h1 h2 h3 => ?_⟩, fun y c h => ⟨_, x.cell y c h⟩, e0.hok.fresh (Nat.le_refl _), fun y c h => ?_, fun p hp => absurd (show p ∈ ([] : List (Addr × Obj)) from hp) (by simp), e0.hok.kept hk, ?_⟩
  · exact name_of_addr x.apart (PySem.mem_of_lookup h1) (PySem.mem_of_lookup h2)
  · have hy : scope.names.lookup y = some .cell ∨ scope.names.lookup y = some .free := hy
    rcases hy with hy | hy
    · exact cell_has hy
    · exact absurd rfl (S.nofree _ (PySem.mem_of_lookup hy))
  · exact Nat.le_of_lt (x.above y c (PySem.mem_of_lookup h))
  · have hi : i < vs.length := by
      unfold start at h2
      by_cases hi : i < vs.length
      · exact hi
      · rw [List.getElem?_append_right (by simpa using hi)] at h2
        rw [List.getElem?_replicate] at h2
        split at h2 <;> cases h2
    have ha : vs[i]? = some v := by
      unfold start at h2
      rw [List.getElem?_append_left (by simpa using hi), List.getElem?_map] at h2
      cases e : vs[i]? with
      | none => rw [e] at h2; cases h2
      | some a => rw [e] at h2; cases h2; rfl
    obtain ⟨u, hu, rv⟩ := r.get ha
    have hp : ps[i]? = some y := by
      rw [← S.pre, List.getElem?_take_of_lt (by omega)]; exact h1
    have ndP : ps.Nodup := by rw [← S.pre]; exact S.nd.sublist (List.take_sublist _ _)
    refine ⟨u, rv, ?_⟩
    rcases S.par y (List.mem_of_getElem? hp) with k | k
    · exact .inl ⟨k, bindL_get ndP hp hu k⟩
    · obtain ⟨c, e⟩ := cell_has (n := s.heap.objs.size + 1) k
      refine .inr ⟨.inl k, c, e, ?_⟩
      have q := x.cell y c e
      rw [bindC_get ndP hp hu (by show scope.names.lookup y ≠ _; rw [k]; decide)] at q
      exact q
  · exact e0.hok.fresh (Nat.le_of_lt (x.above y c (PySem.mem_of_lookup h)))
  · unfold start
    show _ = N.length
    rw [List.length_append, List.length_map, List.length_replicate]
    omega

/-- THE RULE: a def (or a method) of the text, by its body. The body's reading t is chosen for each entry; it is run at the parameters' values -/
theorem fn_of {CX : CXT} {P : Program} {w : World} {K : PySem.W.Frag} {mg : Str → Option Value} {base : Heap} {k : Nat} {f : Addr} {name qual : Str} {params : Arguments} {body : List Stmt} {scope : Scope} {dV kV doc pm cdv ct oc : Value} {an od : Option Addr}
    {osl : Array (Option Value)} {N ps : List Str} {sp : Sp} (lk : K.lookup f = some ⟨oc, od, .func (PySem.W.fnOf name qual params body scope dV kV doc pm an cdv ct), osl⟩) (hcd : PySem.W.codeIn K cdv qual = true) (S : FnScope N ps scope)
    (len : ∀ vs H Q E, sp vs H Q E → vs.length = ps.length)
    (hbody : ∀ (A : Around) (outer : List Env) (s : Shared) (H : Hp) (vs : List V) (Q : VK) (E : XK), Room k (A.deeper (envOfC qual scope s.heap.objs.size f cdv)) → sp vs H Q E →
      ∃ t, PSs (cxOf CX P w K mg base N qual scope f cdv A outer s H E) body t ∧ t { nx := fun _ H' => Q .non H', rt := Q } (start N vs) H) :
    FnOk P w K mg base CX (k + 1) f (PySem.W.fnOf name qual params body scope dV kV doc pm an cdv ct) ps sp := by
  refine ⟨len, fun A outer s H args us vs Q E hr e0 hb r hsp => ?_⟩
  have hl := len _ _ _ _ hsp
  have KX : K.In s.heap := e0.mod.kin.keeps fun b o e => (e0.bs b o e).1
  have lim : s.heap.NoLimit := e0.mod.nolimit.keeps fun b o e => (e0.bs b o e).1
  have hkind : ∀ y ∈ ps.zip us, scope.names.lookup y.1 = some .local ∨ (scope.names.lookup y.1 = some .cell ∧ ((cellsFrom (s.heap.objs.size + 1) scope.names []).lookup y.1).isSome = true) := fun ⟨n, v⟩ hy => by
    rcases S.par n (List.of_mem_zip hy).1 with q | q
    · exact .inl q
    · exact .inr ⟨q, PySem.W.cellsFrom_some _ _ _ (.inl q)⟩
  refine codeAny_call_function hr.depth (KX _ _ lk) rfl S.co S.gen rfl (PySem.W.codeRec_of KX hcd) (hb _ _ _ _ ?_)
  refine wpAny_newFunctionEnv_cells S.kind hkind fun env he s1 x => ?_
  subst he
  refine ⟨lim.keeps x.toInCall.keep, codeAny_func ?_⟩
  obtain ⟨t, ht, hq⟩ := hbody A outer s H vs Q E (hr.deeper _) hsp
  have I : Inv (cxOf CX P w K mg base N qual scope f cdv A outer s H E) [] (start N vs) H s1 := inv_start S hr.hd e0 hl r x
  refine wpAny_mono (ht [] s1 (start N vs) H _ I hq) (fun fl s' hs => ?_) fun e s' hs => hs
  have fin : ∀ {σ' : St} {H' : Hp} {v : V} {u : Value}, Inv (cxOf CX P w K mg base N qual scope f cdv A outer s H E) [] σ' H' s' → RelV v u → Q v H' → CE outer P w H s Q u s' :=
    fun {σ' H' v u} J rv q => ⟨v, H', J.os, J.bare, J.base, J.hok, rv, q⟩
  cases fl with
  | ret u =>
    obtain ⟨v, σ', H', J, rv, q⟩ := hs
    exact fin J rv q
  | next =>
    obtain ⟨σ', H', J, q⟩ := hs
    exact fin (v := V.non) (u := Value.none) J rfl q
  | brk =>
    obtain ⟨_, _, _, q⟩ := hs
    exact False.elim q
  | cont =>
    obtain ⟨_, _, _, q⟩ := hs
    exact False.elim q
end L2

namespace L2
open PySem PySem.Spec PyProof.Rows
section
variable {X : Cx} {x : Str} {p pos : Pos} {e : Expr} {es : List Expr} {t : TA} {id T : String} {r : List V → Hp → VK → Prop}

def tCB (r : List V → Hp → VK → Prop) (t : TA) : TE := fun σ H Q => t σ H fun vs H1 => r vs H1 Q
/-- f(e, ..), f a built-in function -/
theorem pe_callB (hc : CallR X (.builtin id) r) (hg : Gl X x) (hm : X.mg x = none) (hv : bootBuiltins x = some (.builtin id)) (ha : PA X (e :: es) t) (hn : x ≠ "__name__" := by decide) (hdb : (x == ("__debug__" : Str)) = false := by decide)
    (he : starEach (e :: es) X.env = (false, eval e X.env) :: starEach es X.env := by rfl) (hpl : (backTo pos (starEach es X.env)).any (·.1) = false := by rfl) : PE X (.Call (.Name x p) (e :: es) [] pos) (tCB r t) := by
  intro pins s σ H Q I h
  refine wpAny_Call_Name_kw (ld_blt I hg hm hv ?_ hn hdb)
  exact PyProof.Rows.callWith_builtin1 (thn (ha pos pins s σ H _ I h) fun us s1 ⟨vs, H1, I1, r1, q1⟩ => hc pins s1 σ H1 vs us Q I1 r1 q1) he hpl
/-- T(e, ..), T a built-in type -/
theorem pe_callTy (hc : CallR X (.type T) r) (hg : Gl X x) (hm : X.mg x = none) (hv : bootBuiltins x = some (.type T)) (ha : PA X (e :: es) t) (hn : x ≠ "__name__" := by decide) (hdb : (x == ("__debug__" : Str)) = false := by decide)
    (he : starEach (e :: es) X.env = (false, eval e X.env) :: starEach es X.env := by rfl) (hpl : (backTo pos (starEach es X.env)).any (·.1) = false := by rfl) : PE X (.Call (.Name x p) (e :: es) [] pos) (tCB r t) := by
  intro pins s σ H Q I h
  refine wpAny_Call_Name_kw (ld_blt I hg hm hv ?_ hn hdb)
  exact PyProof.Rows.callWith_type1 (thn (ha pos pins s σ H _ I h) fun us s1 ⟨vs, H1, I1, r1, q1⟩ => hc pins s1 σ H1 vs us Q I1 r1 q1) he hpl
end
end L2

namespace HT
open PySem PyProof.Rows

section
open PySem.SeqAt
open PySem.AutoSeq1 (wpAny_loadPart')
open PySem.MeetsSeq PySem.MeetsSeq2 PySem.MeetsSeq3

end

section
variable {prog : Program} {w : World} {A : Around} {E : Value → Shared → Prop} {s : Shared}

/-! ### t[a:b], not the whole -/
/-- a slice's bound as a place among n (d where it is left out) -/
def sIx (n d : Nat) : Option Int → Nat
  | none => d
  | some v => if v < 0 then (v + (n : Int)).toNat else min v.toNat n
theorem sIx_none (n d : Nat) : sIx n d none = d := rfl
end
end HT

namespace L2
open PySem PySem.Spec PyProof.Rows

/-! ### the parts of a slice -/
abbrev TO := St → Hp → (Option Int → Hp → Prop) → Prop
/-- a slice's part (left out, or an int) -/
def PO (X : Cx) (e : Option Expr) (t : TO) : Prop :=
  ∀ (pins : List (Addr × Obj)) (s : Shared) (σ : St) (H : Hp) (Q : Option Int → Hp → Prop), Inv X pins σ H s → t σ H Q →
    wpAny (model X.prog X.w) X.A (evalPart e X.env) (fun u s' => ∃ o H', Inv X pins σ H' s' ∧ IsPart u o ∧ Q o H') X.xe s
def tNoPart : TO := fun _ H Q => Q none H
def tPart (t : TE) : TO := fun σ H Q => t σ H fun x H1 => ∃ i, x = .int i ∧ Q (some i) H1

theorem intsAre_of {ns : List Int} : ∀ {us : List Value}, Vals (ns.map V.int) us → IntsAre us ns := by
  induction ns with
  | nil => intro us r; rw [List.map_nil] at r; cases r; exact .nil
  | cons n ns ih =>
    intro us r
    rw [List.map_cons] at r
    cases r with
    | cons r1 r2 =>
      obtain ⟨t, e⟩ := r1
      subst e
      exact .cons n t (ih r2)

section
variable {X : Cx} {e : Expr} {te : TE} {lo hi : Option Expr} {tl th : TO} {pos p2 : Pos}

theorem po_none : PO X none tNoPart := by
  intro pins s σ H Q I h
  rw [evalPart_none]
  exact wpAny_pure ⟨none, H, I, .none, h⟩
theorem po_some (h : PE X e te) : PO X (some e) (tPart te) := by
  intro pins s σ H Q I hw
  rw [evalPart_some]
  refine thn (h pins s σ H _ I hw) fun u s1 ⟨x, H1, I1, r1, q1⟩ => ?_
  obtain ⟨i, rfl, q⟩ := q1
  obtain ⟨t, rfl⟩ := r1
  exact ⟨some i, H1, I1, .int i t, q⟩

/-- what a slice of a value is, by values: the slice object stands at sl -/
def SlR (X : Cx) (r : V → Option Int → Option Int → Hp → VK → Prop) : Prop :=
  ∀ (pins : List (Addr × Obj)) (s : Shared) (σ : St) (H : Hp) (x : V) (v vl vu : Value) (lo hi : Option Int) (sl : Addr) (Q : VK), Inv X pins σ H s → RelV x v → s.heap.IsSliceOf sl vl vu .none → IsPart vl lo → IsPart vu hi → r x lo hi H Q →
    ∃ T id, typeLookup (.type T) "__getitem__" = pure (some (.builtin id)) ∧ s.TypeIs v T ∧ wpAny (model X.prog X.w) X.A (getItem v (.ref sl)) (EP X pins σ Q) X.xe s
theorem SlR.or {r r' : V → Option Int → Option Int → Hp → VK → Prop} (h : SlR X r) (h' : SlR X r') : SlR X (fun x lo hi H Q => r x lo hi H Q ∨ r' x lo hi H Q) := by
  intro pins s σ H x v vl vu lo hi sl Q I rx hs pl pu q
  rcases q with q | q
  · exact h pins s σ H x v vl vu lo hi sl Q I rx hs pl pu q
  · exact h' pins s σ H x v vl vu lo hi sl Q I rx hs pl pu q
def tSl (r : V → Option Int → Option Int → Hp → VK → Prop) (te : TE) (tl th : TO) : TE := fun σ H Q => te σ H fun x H1 => tl σ H1 fun l H2 => th σ H2 fun u H3 => r x l u H3 Q
/-- a[lo:hi], any a -/
theorem pe_slice {r : V → Option Int → Option Int → Hp → VK → Prop} (hr : SlR X r) (he : PE X e te) (hl : PO X lo tl) (hu : PO X hi th) : PE X (.Subscript e (.Slice lo hi none p2) pos) (tSl r te tl th) := by
  intro pins s σ H Q I h
  refine Subscript_ (thn (he pins s σ H _ I h) fun v s1 ⟨x, H1, I1, r1, q1⟩ => ?_)
  refine wpAny_Slice (thn (hl pins s1 σ H1 _ I1 q1) fun vl s2 ⟨l, H2, I2, pl, q2⟩ => thn (hu pins s2 σ H2 _ I2 q2) fun vu s3 ⟨u, H3, I3, pu, q3⟩ => ?_)
  rw [evalPart_none]
  refine wpAny_pure ?_
  have I4 : Inv X pins σ H3 { s3 with heap := s3.heap.push { cls := .type "slice", data := .fields #[vl, vu, .none] } } := I3.kept (t' := s3.toks) fun b ob q => Heap.get?_push_of_some _ q
  obtain ⟨T, id, hT, ht, hg⟩ := hr pins { s3 with heap := s3.heap.push { cls := .type "slice", data := .fields #[vl, vu, .none] } } σ H3 x v vl vu l u s3.heap.objs.size Q I4 r1 (Heap.IsSliceOf.new ..) pl pu q3
  show wpAny (model X.prog X.w) X.A (subscriptTail e (.Slice lo hi none p2) v (.ref s3.heap.objs.size)) (EP X pins σ Q) X.xe { s3 with heap := s3.heap.push { cls := .type "slice", data := .fields #[vl, vu, .none] } }
  exact tail_any (ops := [.ref s3.heap.objs.size, v]) ht hT hg (by with_unfolding_all rfl)

/-- the items of xs[lo:hi] -/
def cutV (xs : List V) (lo hi : Option Int) : List V := (xs.drop (HT.sIx xs.length 0 lo)).take (HT.sIx xs.length xs.length hi - HT.sIx xs.length 0 lo)
theorem cutV_length (xs : List V) (lo hi : Option Int) : (cutV xs lo hi).length ≤ xs.length := by
  unfold cutV
  rw [List.length_take, List.length_drop]
  omega
/-- t[lo:hi], not the whole of it (the whole would be t itself) -/
def rSlT (K : PySem.W.Frag) : V → Option Int → Option Int → Hp → VK → Prop := fun x lo hi H Q => ∃ a xs, x = .ref a ∧ SqT K H a xs ∧
  ¬ (HT.sIx xs.length 0 lo = 0 ∧ HT.sIx xs.length xs.length hi = xs.length) ∧ ∀ p, H p = none → Q (.ref p) (upd H p (.tup (cutV xs lo hi)))
/-! ### t < u, t + u -/
end
end L2

namespace L2
open PySem PySem.Spec PyProof.Rows

/-! ### places -/
/-- the place that an index of any sign means -/
def ixN (n : Nat) (i : Int) : Option Nat := if 0 ≤ i then (if i < n then some i.toNat else none) else if -(n : Int) ≤ i then some (i + n).toNat else none
def atI {α : Type} (xs : List α) (i : Int) : Option α := (ixN xs.length i).bind fun j => xs[j]?
theorem ixN_seq {n : Nat} {i : Int} {j : Nat} (h : ixN n i = some j) : seqIndex? i n = some j ∧ j < n ∧ -(n : Int) ≤ i ∧ i < n := by
  unfold ixN at h
  by_cases h0 : 0 ≤ i
  · rw [if_pos h0] at h
    by_cases h1 : i < n
    · rw [if_pos h1] at h
      have e : i.toNat = j := Option.some.inj h
      exact ⟨by rw [seqIndex_of h0 h1, e], by omega, by omega, h1⟩
    · rw [if_neg h1] at h; cases h
  · rw [if_neg h0] at h
    by_cases h1 : -(n : Int) ≤ i
    · rw [if_pos h1] at h
      have e : (i + n).toNat = j := Option.some.inj h
      exact ⟨by rw [seqIndex_neg (by omega) h1, e], by omega, h1, by omega⟩
    · rw [if_neg h1] at h; cases h
theorem atI_get {α : Type} {xs : List α} {i : Int} {v : α} (h : atI xs i = some v) : ∃ j, seqIndex? i xs.length = some j ∧ xs[j]? = some v ∧ j < xs.length ∧ -(xs.length : Int) ≤ i ∧ i < xs.length := by
  unfold atI at h
  cases e : ixN xs.length i with
  | none => rw [e] at h; cases h
  | some j =>
    rw [e] at h
    obtain ⟨h1, h2, h3, h4⟩ := ixN_seq e
    exact ⟨j, h1, h, h2, h3, h4⟩
theorem atI_nat {α : Type} {xs : List α} {j : Nat} {v : α} (h : xs[j]? = some v) : atI xs (j : Int) = some v := by
  have hj : j < xs.length := (List.getElem?_eq_some_iff.mp h).1
  have e : ixN xs.length (j : Int) = some j := by
    unfold ixN
    rw [if_pos (by omega), if_pos (by omega)]; simp
  unfold atI; rw [e]; exact h
theorem atI_last {α : Type} (xs : List α) (v : α) : atI (xs ++ [v]) (-1) = some v := by
  have hl : (xs ++ [v]).length = xs.length + 1 := by simp
  have e : ixN (xs ++ [v]).length (-1) = some xs.length := by
    unfold ixN
    rw [hl, if_neg (by decide), if_pos (by omega)]
    congr 1
    omega
  unfold atI
  rw [e]
  show (xs ++ [v])[xs.length]? = some v
  simp

/-! ### what may be subscripted -/
/-- what stands as an index of a plain subscript -/
def PlainIx (b : Expr) : Prop := ∀ o i, subscripted b false o i = operate [o, i] (getItem o i)
/-- a subscript by values -/
def IxR (X : Cx) (r : R2) : Prop :=
  ∀ (value slice : Expr) (pins : List (Addr × Obj)) (s : Shared) (σ : St) (H : Hp) (x y : V) (v u : Value) (Q : VK), Inv X pins σ H s → RelV x v → RelV y u → r x y H Q →
    subscripted slice false v u = operate [v, u] (getItem v u) → wpAny (model X.prog X.w) X.A (subscriptTail value slice v u) (EP X pins σ Q) X.xe s
/-- a call of a builtin's method by values: the receiver, the arguments -/
def MtR (X : Cx) (id : String) (r : V → List V → Hp → VK → Prop) : Prop :=
  ∀ (pins : List (Addr × Obj)) (s : Shared) (σ : St) (H : Hp) (x : V) (xs : List V) (v : Value) (us : List Value) (Q : VK), Inv X pins σ H s → RelV x v → Vals xs us → r x xs H Q →
    wpAny (model X.prog X.w) X.A (call (.builtin id) (v :: us)) (EP X pins σ Q) X.xe s
section
variable {X : Cx} {a b : Expr} {ta tb : TE} {pos : Pos}
theorem IxR.or {r r' : R2} (h : IxR X r) (h' : IxR X r') : IxR X (fun x y H Q => r x y H Q ∨ r' x y H Q) := by
  intro value slice pins s σ H x y v u Q I rx ry q hs
  rcases q with q | q
  · exact h value slice pins s σ H x y v u Q I rx ry q hs
  · exact h' value slice pins s σ H x y v u Q I rx ry q hs
theorem MtR.or {id : String} {r r' : V → List V → Hp → VK → Prop} (h : MtR X id r) (h' : MtR X id r') : MtR X id (fun x xs H Q => r x xs H Q ∨ r' x xs H Q) := by
  intro pins s σ H x xs v us Q I rx rs q
  rcases q with q | q
  · exact h pins s σ H x xs v us Q I rx rs q
  · exact h' pins s σ H x xs v us Q I rx rs q
/-- a[b] -/
theorem pe_ix {r : R2} (hr : IxR X r) (ha : PE X a ta) (hb : PE X b tb) (hs : PlainIx b) : PE X (.Subscript a b pos) (tOp r ta tb) := by
  intro pins s σ H Q I h
  exact Subscript_ (binT ha hb I h fun v u s2 x y H2 I2 rx ry q => hr a b pins s2 σ H2 x y v u Q I2 rx ry q (hs _ _))

def rIxL (K : PySem.W.Frag) : R2 := fun x y H Q => ∃ p xs i v, x = .ref p ∧ y = .int i ∧ SqL K H p xs ∧ atI xs i = some v ∧ Q v H
def rIxT (K : PySem.W.Frag) : R2 := fun x y H Q => ∃ p xs i v, x = .ref p ∧ y = .int i ∧ SqT K H p xs ∧ atI xs i = some v ∧ Q v H
def rIxS : R2 := fun x y H Q => ∃ z i c, x = .str z ∧ y = .int i ∧ z.length ≤ sizeLine ∧ atI z.cps.toList i = some c ∧ Q (.str ⟨#[c]⟩) H
theorem ix_list : IxR X (rIxL X.K) := by
  intro value slice pins s σ H x y v u Q I rx ry h hs
  obtain ⟨p, xs, i, z, rfl, rfl, hq, he, q⟩ := h
  cases rx
  obtain ⟨t, rfl⟩ := ry
  obtain ⟨its, r, pl, hz⟩ := I.list hq
  obtain ⟨j, h1, h2, h3, h4, h5⟩ := atI_get he
  obtain ⟨w, ew, rw'⟩ := r.get h2
  have hl := r.length
  have hn := line63
  have fin : EP X pins σ Q w s := ⟨z, H, I, rw', q⟩
  by_cases h0 : 0 ≤ i
  · have hj : i.toNat = j := by
      rw [seqIndex_of h0 h5] at h1
      exact Option.some.inj h1
    exact item_listR pl.isList h0 (by omega) (by rw [hj]; simpa using ew) fin hs
  · have hj : (i + (its.toArray.size : Int)).toNat = j := by
      rw [seqIndex_neg (by omega) h4] at h1
      rw [List.size_toArray, ← hl]
      exact Option.some.inj h1
    exact subscriptTail_builtinR (x := w) pl.isList.typeIs slot_list_getitem.lookup
      (wpAny_getItem_list_neg (Q := fun r s' => r = w ∧ EP X pins σ Q r s') pl.isList (by omega) (by rw [List.size_toArray] <;> omega) (by omega) (by rw [hj]; simpa using ew) ⟨rfl, fin⟩) hs
theorem ix_tup : IxR X (rIxT X.K) := by
  intro value slice pins s σ H x y v u Q I rx ry h hs
  obtain ⟨p, xs, i, z, rfl, rfl, hq, he, q⟩ := h
  cases rx
  obtain ⟨t, rfl⟩ := ry
  obtain ⟨its, r, pl, hz⟩ := I.tuple hq
  obtain ⟨j, h1, h2, h3, h4, h5⟩ := atI_get he
  obtain ⟨w, ew, rw'⟩ := r.get h2
  have hl := r.length
  have hn := line63
  have fin : EP X pins σ Q w s := ⟨z, H, I, rw', q⟩
  exact subscriptTail_builtinR (x := w) pl.typeIs slot_tuple_getitem.lookup
    (getItem_tuple (j := j) (Q := fun r s' => r = w ∧ EP X pins σ Q r s') pl (by omega) (by omega) (by rw [List.size_toArray, ← hl]; exact h1) (by simpa using ew) ⟨rfl, fin⟩) hs
/-! ### xs[i] = v, any sign -/
/-- the list's object behind a store -/
theorem mapSeq_set (its : List Value) (n j : Nat) (u : Value) : Obj.mapSeq (·.setIfInBounds j u) { cls := .type "list", data := .seq its.toArray n } = { cls := .type "list", data := .seq (its.set j u).toArray n } := by
  simp [Obj.mapSeq]
theorem Inv.lst {pins : List (Addr × Obj)} {σ : St} {H : Hp} {s : Shared} {p : Addr} {xs : List V} (I : Inv X pins σ H s) (h : H p = some (.lst xs)) :
    ∃ (its : List Value) (n : Nat), Vals xs its ∧ s.heap.get? p = some { cls := .type "list", data := .seq its.toArray n } ∧ xs.length ≤ sizeLine := by
  obtain ⟨z, its, n, r, e⟩ := I.hok p _ h
  exact ⟨its, n, r, e, z⟩
/-- the list at p is written by an update of its object -/
theorem Inv.lstUpd {pins : List (Addr × Obj)} {σ : St} {H : Hp} {s : Shared} {p : Addr} {xs ys : List V} {its its' : List Value} {n n' : Nat} {f : Obj → Obj} (I : Inv X pins σ H s) (h : H p = some (.lst xs))
    (ho : s.heap.get? p = some { cls := .type "list", data := .seq its.toArray n }) (hf : f { cls := .type "list", data := .seq its.toArray n } = { cls := .type "list", data := .seq its'.toArray n' }) (r : Vals ys its') (hz : ys.length ≤ sizeLine) (t : Nat) :
    Inv X pins σ (upd H p (.lst ys)) { s with heap := s.heap.update p f, toks := t } := by
  have e : (s.heap.update p f).get? p = some { cls := .type "list", data := .seq its'.toArray n' } := by
    rw [Heap.get?_update_self f ho (by rw [hf] <;> rfl), hf]
  refine I.write (x := p) (e := p) (by rw [h]; trivial) (.inl rfl) (fun b u hb q => (Heap.get?_update_other _ _ (Ne.symm hb)).trans q) ⟨_, e⟩ ?_
  exact ⟨hz, its', n', r, e⟩
def rSetL : V → V → V → Hp → (Hp → Prop) → Prop := fun o i v H Q => ∃ p xs k j, o = .ref p ∧ i = .int k ∧ H p = some (.lst xs) ∧ ixN xs.length k = some j ∧ Q (upd H p (.lst (xs.set j v)))
theorem set_list : PSet X rSetL := by
  intro pins s σ H o i v ov iv u Q I ro ri rv h
  obtain ⟨p, xs, k, j, rfl, rfl, hp, hj, q⟩ := h
  cases ro
  obtain ⟨t, rfl⟩ := ri
  obtain ⟨its, n, r, ho, hz⟩ := I.lst hp
  obtain ⟨h1, h2, h3, h4⟩ := ixN_seq hj
  have hl := r.length
  have hn := line63
  have I' : Inv X pins σ (upd H p (.lst (xs.set j v))) { s with heap := s.heap.update p (Obj.mapSeq (·.setIfInBounds j u)) } :=
    I.lstUpd hp ho (mapSeq_set its n j u) (r.set rv j) (by rw [List.length_set]; exact hz) s.toks
  by_cases h0 : 0 ≤ k
  · have hk : k.toNat = j := by
      rw [seqIndex_of h0 h4] at h1
      exact Option.some.inj h1
    exact PySem.W.ki_setAt ho h0 (by omega) (by rw [List.size_toArray, ← hl]; exact h4) (by rw [hk]; exact ⟨_, I', q⟩)
  · have hk : (k + (its.toArray.size : Int)).toNat = j := by
      rw [seqIndex_neg (by omega) h3] at h1
      rw [List.size_toArray, ← hl]
      exact Option.some.inj h1
    exact PySem.W.ki_setBack ho (by omega) (by rw [List.size_toArray, ← hl]; exact h3) (by omega) (by rw [hk]; exact ⟨_, I', q⟩)

/-! ### slices -/
theorem slice_bounds (lo hi : Option Int) (n : Nat) : (sliceBounds lo hi none n).1 = ((HT.sIx n 0 lo : Nat) : Int) ∧ (sliceBounds lo hi none n).2.1 = ((HT.sIx n n hi : Nat) : Int) ∧ (sliceBounds lo hi none n).2.2 = 1 := by
  refine ⟨?_, ?_, rfl⟩
  · cases lo with
    | none => simp [sliceBounds, HT.sIx]
    | some i =>
      simp only [sliceBounds, HT.sIx, Option.getD_none, show (1 : Int) > 0 by decide, if_true]
      by_cases h : i < 0
      · simp only [h, if_true] <;> omega
      · simp only [h, if_false] <;> omega
  · cases hi with
    | none => simp [sliceBounds, HT.sIx]
    | some i =>
      simp only [sliceBounds, HT.sIx, Option.getD_none, show (1 : Int) > 0 by decide, if_true]
      by_cases h : i < 0
      · simp only [h, if_true] <;> omega
      · simp only [h, if_false] <;> omega
theorem slicePick_cut (its : List Value) (lo hi : Option Int) : slicePick its.toArray lo hi none = ((its.drop (HT.sIx its.length 0 lo)).take (HT.sIx its.length its.length hi - HT.sIx its.length 0 lo)).toArray := by
  obtain ⟨h1, h2, h3⟩ := slice_bounds lo hi its.toArray.size
  unfold slicePick
  rw [h1, h2, h3]
  simp only [sliceRange_one, pick_run, List.size_toArray] <;> rfl
/-- xs[lo:hi] of a list: a new list -/
def rSlL (K : PySem.W.Frag) : V → Option Int → Option Int → Hp → VK → Prop := fun x lo hi H Q => ∃ a xs, x = .ref a ∧ SqL K H a xs ∧ ∀ p, H p = none → Q (.ref p) (upd H p (.lst (cutV xs lo hi)))
theorem sl_list : SlR X (rSlL X.K) := by
  intro pins s σ H x v vl vu lo hi sl Q I rx hs pl pu h
  obtain ⟨a, xs, rfl, hx, q⟩ := h
  cases rx
  obtain ⟨its, r, ht, hz⟩ := I.list hx
  have hlen := r.length
  refine ⟨"list", _, slot_list_getitem.lookup, ht.isList.typeIs, ?_⟩
  refine wpAny_getItem_list_slice ht.isList hs pl pu .none (by simp) ?_ (by rw [List.size_toArray] <;> omega)
  rw [slicePick_cut, ← hlen]
  refine ⟨.ref s.heap.objs.size, _, I.laid (t' := s.toks) (o := .lst (cutV xs lo hi)) (fun b ob q => Heap.get?_push_of_some _ q) (Nat.le_refl _) ?_, rfl, q _ (I.hok.fresh (Nat.le_refl _))⟩
  exact ⟨Nat.le_trans (cutV_length xs lo hi) hz, _, 0, (r.drop (HT.sIx xs.length 0 lo)).take (HT.sIx xs.length xs.length hi - HT.sIx xs.length 0 lo), Heap.get?_push_size _ rfl⟩

/-! ### in, not in: flat items -/
def flatV : V → Bool
  | .non => true
  | .bl _ => true
  | .int _ => true
  | .str _ => true
  | _ => false
/-- == of flat values -/
def eqV : V → V → Bool
  | .non, .non => true
  | .bl a, .bl b => a == b
  | .bl a, .int b => (if a then 1 else 0) == b
  | .int a, .bl b => a == (if b then 1 else 0)
  | .int a, .int b => a == b
  | .str a, .str b => a == b
  | _, _ => false
theorem eqAt_V {A : Around} {s : Shared} {y x : V} {u v : Value} (ry : RelV y u) (rx : RelV x v) (fy : flatV y = true) (fx : flatV x = true) : SeqAt.EqAt A s u v (eqV y x) := by
  cases y with
  | non =>
    cases ry
    cases x with
    | non => cases rx; exact SeqAt.EqAt.same _
    | bl b => cases rx; exact SeqAt.EqAt.none_bool b
    | int b => obtain ⟨t, rfl⟩ := rx; exact SeqAt.EqAt.none_int b t
    | str b => obtain ⟨t, rfl⟩ := rx; exact SeqAt.EqAt.none_str b t
    | _ => exact absurd (show false = true from fx) Bool.false_ne_true
  | bl a =>
    cases ry
    cases x with
    | non => cases rx; exact SeqAt.EqAt.bool_none a
    | bl b => cases rx; exact SeqAt.EqAt.bool_bool a b
    | int b => obtain ⟨t, rfl⟩ := rx; exact SeqAt.EqAt.bool_int a b t
    | str b => obtain ⟨t, rfl⟩ := rx; exact SeqAt.EqAt.bool_str a b t
    | _ => exact absurd (show false = true from fx) Bool.false_ne_true
  | int a =>
    obtain ⟨t', rfl⟩ := ry
    cases x with
    | non => cases rx; exact SeqAt.EqAt.int_none a t'
    | bl b => cases rx; exact SeqAt.EqAt.int_bool a t' b
    | int b => obtain ⟨t, rfl⟩ := rx; exact SeqAt.EqAt.int_int a t' b t
    | str b => obtain ⟨t, rfl⟩ := rx; exact SeqAt.EqAt.int_str a t' b t
    | _ => exact absurd (show false = true from fx) Bool.false_ne_true
  | str a =>
    obtain ⟨t', rfl⟩ := ry
    cases x with
    | non => cases rx; exact SeqAt.EqAt.str_none a t'
    | bl b => cases rx; exact SeqAt.EqAt.str_bool a t' b
    | int b => obtain ⟨t, rfl⟩ := rx; exact SeqAt.EqAt.str_int a t' b t
    | str b => obtain ⟨t, rfl⟩ := rx; exact SeqAt.EqAt.str_str a t' b t
    | _ => exact absurd (show false = true from fx) Bool.false_ne_true
  | _ => exact absurd (show false = true from fy) Bool.false_ne_true
def inV (x : V) (xs : List V) : Bool := xs.any fun y => eqV y x
/-- x in a list or tuple of flat items -/
def rIn (K : PySem.W.Frag) (neg : Bool) : R2 := fun x y H Q => ∃ p xs, y = .ref p ∧ (SqL K H p xs ∨ SqT K H p xs) ∧ flatV x = true ∧ xs.all flatV = true ∧ Q (.bl (if neg then !inV x xs else inV x xs)) H
/-! ### len, list(x), tuple(x) of any list or tuple that is read -/
theorem call_len_seq : CallR X (.builtin "len") (fun xs H Q => ∃ p ys, xs = [.ref p] ∧ (SqL X.K H p ys ∨ SqT X.K H p ys) ∧ Q (.int ys.length) H) := by
  intro pins s σ H xs us Q I r h
  obtain ⟨p, ys, rfl, hq, q⟩ := h
  obtain ⟨u, rfl, rx⟩ := vals1 r
  cases rx
  have hn := line63
  rcases hq with hq | hq
  · obtain ⟨its, r', pl, hz⟩ := I.list hq
    have hlen := r'.length
    exact Calls.call_len_list pl.isList (by simp only [List.size_toArray] <;> omega) ⟨.int ys.length, H, I.tok _, ⟨s.toks + 1, by rw [List.size_toArray, hlen]⟩, q⟩
  · obtain ⟨its, r', pl, hz⟩ := I.tuple hq
    have hlen := r'.length
    exact len_tuple pl (by simp only [List.size_toArray] <;> omega) ⟨.int ys.length, H, I.tok _, ⟨s.toks + 1, by rw [List.size_toArray, hlen]⟩, q⟩
theorem CallR.or {f : Value} {r r' : List V → Hp → VK → Prop} (h : CallR X f r) (h' : CallR X f r') : CallR X f (fun xs H Q => r xs H Q ∨ r' xs H Q) := by
  intro pins s σ H xs us Q I rs q
  rcases q with q | q
  · exact h pins s σ H xs us Q I rs q
  · exact h' pins s σ H xs us Q I rs q
/-! ### the call of a builtin's method: o.m(..) -/
/-- the value is of that builtin type -/
def tyV (K : PySem.W.Frag) (T : String) (x : V) (H : Hp) : Prop := match x with
  | .str _ => T = "str"
  | .int _ => T = "int"
  | .ref p => (T = "list" ∧ ∃ xs, SqL K H p xs) ∨ (T = "tuple" ∧ ∃ o, K.lookup p = some o ∧ o.cls = .type "tuple" ∧ o.dict = none) ∨
      (T = "dict" ∧ ((∃ kvs, H p = some (.dK kvs)) ∨ ∃ kvs, H p = some (.dT kvs))) ∨ (T = "set" ∧ ∃ S n, H p = some (.set S n))
  | _ => False
theorem tyV_is {pins : List (Addr × Obj)} {σ : St} {H : Hp} {s : Shared} {T : String} {x : V} {v : Value} (I : Inv X pins σ H s) (r : RelV x v) (ty : tyV X.K T x H) :
    s.TypeIs v T ∧ ∀ a, v = .ref a → ∃ ob, s.heap.get? a = some ob ∧ ob.dict = none := by
  cases x with
  | str z =>
    obtain ⟨t, rfl⟩ := r
    cases (show T = "str" from ty)
    exact ⟨typeIs_str s z t, fun _ e => nomatch e⟩
  | int i =>
    obtain ⟨t, rfl⟩ := r
    cases (show T = "int" from ty)
    exact ⟨typeIs_int s i t, fun _ e => nomatch e⟩
  | ref p =>
    cases r
    rcases ty with ⟨rfl, xs, hq⟩ | ⟨rfl, o, hk, hc, hd⟩ | ⟨rfl, hk⟩ | ⟨rfl, S, n, hk⟩
    · obtain ⟨its, _, pl, _⟩ := I.list hq
      refine ⟨pl.isList.typeIs, fun a e => ?_⟩
      cases e
      obtain ⟨o, n, e, c, hd, _⟩ := pl
      exact ⟨o, e, hd⟩
    · refine ⟨⟨o, I.kIn p o hk, hc⟩, fun a e => ?_⟩
      cases e
      exact ⟨o, I.kIn _ o hk, hd⟩
    · have z : ∃ o, s.heap.get? p = some o ∧ o.ExactDict := by
        rcases hk with ⟨kvs, hk⟩ | ⟨kvs, hk⟩
        · obtain ⟨_, _, _, _, o, _, _, e, ex, _⟩ := I.hok p _ hk
          exact ⟨o, e, ex⟩
        · obtain ⟨_, _, _, _, o, _, _, e, ex, _⟩ := I.hok p _ hk
          exact ⟨o, e, ex⟩
      obtain ⟨o, e, ex⟩ := z
      refine ⟨⟨o, e, ex.1⟩, fun a e2 => ?_⟩
      cases e2
      exact ⟨o, e, ex.2.1⟩
    · obtain ⟨o, _, _, _, e, ex, _⟩ := I.hok p _ hk
      refine ⟨⟨o, e, ex.1⟩, fun a e2 => ?_⟩
      cases e2
      exact ⟨o, e, ex.2.1⟩
  | _ => exact False.elim ty
def tBM0 (K : PySem.W.Frag) (T : String) (r : V → List V → Hp → VK → Prop) (to : TE) : TE := fun σ H Q => to σ H fun x H1 => tyV K T x H1 ∧ r x [] H1 Q
def tBM (K : PySem.W.Frag) (T : String) (r : V → List V → Hp → VK → Prop) (to : TE) (t : TA) : TE := fun σ H Q => to σ H fun x H1 => tyV K T x H1 ∧ t σ H1 fun xs H2 => r x xs H2 Q
variable {o e : Expr} {es : List Expr} {to : TE} {t : TA} {name : Str} {apos cpos : Pos} {T id : String} {r : V → List V → Hp → VK → Prop}
theorem pe_bm (pa : PlainAttrs T) (slot : Slot T name id) (hty : typeOf (.builtin id) = pure (.type "method_descriptor")) (hm : MtR X id r) (ho : PE X o to) (ha : PA X (e :: es) t)
    (hbase : attributeBase o name X.env (eval o X.env) = eval o X.env := by rfl)
    (hfew : ((backTo cpos (starEach (e :: es) X.env)).all (fun x => !x.1) && (backToKw cpos (keywordEach [] X.env)).all (fun x => x.1.isSome)
      && decide ((e :: es).length + ([] : List Keyword).length + (if ([] : List Keyword).isEmpty then 0 else 1) < 30)) = true := by rfl)
    (hline : (apos.endLine == cpos.line) = true := by rfl) (hs : starEach (e :: es) X.env = (false, eval e X.env) :: starEach es X.env := by rfl) (hplain : (backTo cpos (starEach es X.env)).any (·.1) = false := by rfl) :
    PE X (.Call (.Attribute o name apos) (e :: es) [] cpos) (tBM X.K T r to t) := by
  intro pins s σ H Q I h
  refine wpAny_Call_method_late hbase hfew hline rfl (thn (ho pins s σ H _ I h) fun v s1 ⟨x, H1, I1, r1, ty, q1⟩ => ?_)
  obtain ⟨h1, h2⟩ := tyV_is I1 r1 ty
  refine ⟨T, id, pa, slot, hty, h1, h2, ?_⟩
  have hA := ha cpos pins s1 σ H1 _ I1 q1
  rw [hs] at hA ⊢
  refine Calls.callWith_builtin (by show (false || (backTo cpos (starEach es X.env)).any (·.1)) = false; rw [hplain] <;> rfl) (Calls.evalArgs_plain ?_)
  exact thn hA fun us s2 ⟨vs, H2, I2, r2, q2⟩ => hm pins s2 σ H2 x vs v us Q I2 r1 r2 q2
/- xs.append(e), list.index on a module's tuple .. are MtR facts of 06m -/
end
end L2

namespace L2
open PySem PySem.Spec PyProof.Rows

def MtM (X : Cx) (id : String) (r : V → List V → Hp → VK → Prop) : Prop :=
  ∀ (pins : List (Addr × Obj)) (s : Shared) (σ : St) (H : Hp) (x : V) (xs : List V) (v : Value) (us : List Value) (Q : VK), Inv X pins σ H s → RelV x v → Vals xs us → r x xs H Q →
    wpAny (model X.prog X.w) X.A (call (.builtin id) (v :: us)) (EP X pins σ Q) X.xe s

/-! ### lists of values -/
theorem Vals.one : ∀ {x : V} {us : List Value}, Vals [x] us → ∃ u, us = [u] ∧ RelV x u
  | _, _, .cons r .nil => ⟨_, rfl, r⟩
theorem Vals.two : ∀ {x y : V} {us : List Value}, Vals [x, y] us → ∃ u v, us = [u, v] ∧ RelV x u ∧ RelV y v
  | _, _, _, .cons r (.cons q .nil) => ⟨_, _, rfl, r, q⟩
theorem Vals.zero : ∀ {us : List Value}, Vals [] us → us = []
  | _, .nil => rfl
theorem Vals.dropLast {xs : List V} {us : List Value} (h : Vals xs us) : Vals xs.dropLast us.dropLast := by
  induction h with
  | nil => exact .nil
  | cons r t ih =>
    cases t with
    | nil => exact .nil
    | cons q t' => exact .cons r ih
theorem Vals.eraseIdx : ∀ {xs : List V} {us : List Value} (i : Nat), Vals xs us → Vals (xs.eraseIdx i) (us.eraseIdx i)
  | _, _, _, .nil => .nil
  | _, _, 0, .cons _ t => t
  | _, _, i + 1, .cons r t => .cons r (Vals.eraseIdx i t)
theorem Vals.reverse {xs : List V} {us : List Value} (h : Vals xs us) : Vals xs.reverse us.reverse := by
  induction h with
  | nil => exact .nil
  | cons r t ih => rw [List.reverse_cons, List.reverse_cons]; exact Vals.append ih (.cons r .nil)
theorem len_erase {α : Type} : ∀ (l : List α) (i : Nat), (l.eraseIdx i).length ≤ l.length
  | [], _ => Nat.le_refl _
  | _ :: _, 0 => Nat.le_succ _
  | _ :: r, i + 1 => Nat.succ_le_succ (len_erase r i)
section
variable {X : Cx} {pins : List (Addr × Obj)} {σ : St} {H : Hp} {s : Shared} {l b : Addr} {xs ys zs : List V}

/-! ### the two steps: a tracked list is rewritten, a new list is laid -/
theorem Inv.lset {its its' : List Value} {n : Nat} {f : Array Value → Array Value} {t' : Nat} (I : Inv X pins σ H s) (hH : H l = some (.lst xs))
    (e : s.heap.get? l = some { cls := .type "list", data := .seq its.toArray n }) (hf : f its.toArray = its'.toArray) (hv : Vals ys its') (hz : ys.length ≤ sizeLine) :
    Inv X pins σ (upd H l (.lst ys)) { s with heap := s.heap.update l (Obj.mapSeq f), toks := t' } := by
  have q := PySem.IsL.update e f
  rw [hf] at q
  refine I.write (x := l) (e := l) (by rw [hH]; exact trivial) (.inl rfl) (fun b' u hb hu => (Heap.get?_update_other s.heap (Obj.mapSeq f) (Ne.symm hb)).trans hu) ⟨_, q⟩ ?_
  exact ⟨hz, its', _, hv, q⟩
theorem Inv.lnew {its : List Value} {t' : Nat} (I : Inv X pins σ H s) (hv : Vals ys its) (hz : ys.length ≤ sizeLine) :
    Inv X pins σ (upd H s.heap.objs.size (.lst ys)) { s with heap := s.heap.push { cls := .type "list", data := .seq its.toArray }, toks := t' } :=
  I.laid (fun _ _ q => Heap.get?_push_of_some _ q) (Nat.le_refl _) ⟨hz, its, 0, hv, Heap.get?_push_size _ rfl⟩
theorem Inv.fresh (I : Inv X pins σ H s) : H s.heap.objs.size = none := I.hok.fresh (Nat.le_refl _)
theorem Inv.lstM (I : Inv X pins σ H s) (hH : H l = some (.lst xs)) : xs.length ≤ sizeLine ∧ ∃ (its : List Value) (n : Nat), Vals xs its ∧ xs.length = its.length ∧ s.heap.get? l = some { cls := .type "list", data := .seq its.toArray n } := by
  obtain ⟨z, its, n, r, e⟩ := I.hok l _ hH
  exact ⟨z, its, n, r, r.length, e⟩

end

section
variable {X : Cx}

/-! ### methods -/
def rAppend : V → List V → Hp → VK → Prop := fun x vs H Q => ∃ l xs y, x = .ref l ∧ vs = [y] ∧ H l = some (.lst xs) ∧ xs.length < sizeLine ∧ Q .non (upd H l (.lst (xs ++ [y])))
theorem mt_append : MtM X "list.append" rAppend := by
  intro pins s σ H x vs v us Q I rx rv h
  obtain ⟨l, xs, y, rfl, rfl, hH, hz, q⟩ := h
  cases rx
  obtain ⟨u, rfl, ru⟩ := rv.one
  obtain ⟨z, its, n, r, hl, e⟩ := I.lstM hH
  refine call_meets F.slot_list_append ⟨_, e, rfl⟩ F.entry_list_append (F.args_list_append_2 _ _) (PySem.list_append l its.toArray n u (by rw [List.size_toArray]; omega)) ⟨e, ?_⟩
  refine ⟨.non, _, I.lset (its' := its ++ [u]) hH e (by simp) (r.append (.cons ru .nil)) ?_, rfl, q⟩
  rw [List.length_append, List.length_singleton]
  omega

def rExtend : V → List V → Hp → VK → Prop := fun x vs H Q => ∃ l b xs zs, x = .ref l ∧ vs = [.ref b] ∧ H l = some (.lst xs) ∧ H b = some (.lst zs) ∧ xs.length + zs.length ≤ sizeLine ∧ Q .non (upd H l (.lst (xs ++ zs)))
def rPop : V → List V → Hp → VK → Prop := fun x vs H Q => ∃ l xs y, x = .ref l ∧ vs = [] ∧ H l = some (.lst xs) ∧ xs[xs.length - 1]? = some y ∧ Q y (upd H l (.lst xs.dropLast))
def rPopAt : V → List V → Hp → VK → Prop := fun x vs H Q => ∃ l xs i k y, x = .ref l ∧ vs = [.int i] ∧ H l = some (.lst xs) ∧ -(2 ^ 63) ≤ i ∧ i < 2 ^ 63 ∧ seqIndex? i xs.length = some k ∧ xs[k]? = some y ∧ Q y (upd H l (.lst (xs.eraseIdx k)))
theorem mt_popAt : MtM X "list.pop" rPopAt := by
  intro pins s σ H x vs v us Q I rx rv h
  obtain ⟨l, xs, i, k, y, rfl, rfl, hH, h1, h2, hk, hy, q⟩ := h
  cases rx
  obtain ⟨u, rfl, ru⟩ := rv.one
  obtain ⟨t, rfl⟩ := ru
  obtain ⟨z, its, n, r, hl, e⟩ := I.lstM hH
  obtain ⟨w, hw, rw'⟩ := r.get hy
  refine call_meets F.slot_list_pop ⟨_, e, rfl⟩ F.entry_list_pop (F.args_list_pop_2 _ _)
    (MeetsSeq.list_pop_at l its.toArray n i t k w (fitsIndex_both h1 h2) (by rw [List.size_toArray, ← hl]; exact hk) (by rw [← Array.getElem?_toList]; exact hw) (by rw [List.size_toArray]; omega)) ⟨e, ?_⟩
  refine ⟨y, _, I.lset (its' := its.eraseIdx k) hH e ?_ (r.eraseIdx k) ?_, rw', q⟩
  · show its.toArray.eraseIdxIfInBounds k = (its.eraseIdx k).toArray
    rw [List.eraseIdxIfInBounds_toArray]
  · have := len_erase xs k
    omega

def rReverse : V → List V → Hp → VK → Prop := fun x vs H Q => ∃ l xs, x = .ref l ∧ vs = [] ∧ H l = some (.lst xs) ∧ Q .non (upd H l (.lst xs.reverse))
def rClear : V → List V → Hp → VK → Prop := fun x vs H Q => ∃ l xs, x = .ref l ∧ vs = [] ∧ H l = some (.lst xs) ∧ Q .non (upd H l (.lst []))
/-! ### list + list, list += list, list * int -/
def rCat : R2 := fun x y H Q => ∃ l b xs zs, x = .ref l ∧ y = .ref b ∧ H l = some (.lst xs) ∧ H b = some (.lst zs) ∧ xs.length + zs.length ≤ sizeLine ∧ ∀ p, H p = none → Q (.ref p) (upd H p (.lst (xs ++ zs)))
theorem op_cat : OpR X (binaryOp .Add) rCat := by
  intro pins s σ H x y v u Q I rx ry h
  obtain ⟨l, b, xs, zs, rfl, rfl, hH, hB, hz, q⟩ := h
  cases rx
  cases ry
  obtain ⟨z, its, n, r, hl, e⟩ := I.lstM hH
  obtain ⟨z2, its2, n2, r2, hl2, e2⟩ := I.lstM hB
  refine PySem.P.add_list e e2 ?_ (by rw [List.size_toArray, List.size_toArray]; omega)
  have ea : its.toArray ++ its2.toArray = (its ++ its2).toArray := by simp
  rw [ea]
  exact ⟨.ref _, _, I.lnew (t' := s.toks) (r.append r2) (by rw [List.length_append]; omega), rfl, q _ I.fresh⟩
/-- a list times an int (a negative one is nothing) -/
def rRep : R2 := fun x y H Q => ∃ l k xs, x = .ref l ∧ y = .int k ∧ H l = some (.lst xs) ∧ -(2 ^ 63) ≤ k ∧ k < 2 ^ 63 ∧ xs.length * k.toNat ≤ sizeLine ∧
  ∀ p, H p = none → Q (.ref p) (upd H p (.lst (List.replicate k.toNat xs).flatten))
/-! ### del xs[i] -/
end

/-! ### xs[a:b] = ys -/
section
variable {prog : Program} {w : World} {A : Around} {E : Value → Shared → Prop} {s : Shared}
set_option maxRecDepth 100000 in
end

section
variable {X : Cx}
end
end L2

namespace Att
open PySem PySem.W PySem.Calls PyProof.Rows

/-! ### the script -/
theorem ints_of_wellAll {P : Params} {h : Heap} : ∀ (ns : List Int) (vs : List Value), WellAll P h vs (ns.map WData.int) → IntsAre vs ns := by
  intro ns
  induction ns with
  | nil =>
    intro vs w
    rw [List.map_nil] at w
    cases w
    exact .nil
  | cons n ns ih =>
    intro vs w
    rw [List.map_cons] at w
    cases w with
    | cons a b =>
      cases a
      exact .cons _ _ (ih _ b)

theorem script_of {l : OpenLaw} {n : Nat} (hn : l.most = some n) {P : Params} {h : Heap} {args : List WData} {vals : List Value}
    (hpre : l.row.toRowW.claim.pre args = true) (hwl : WellAll P h vals args) :
    ∃ a vs ns, vals = [Value.ref a] ∧ args = [WData.list (ns.map WData.int)] ∧ h.get? a = some { cls := .type "list", data := .seq vs.toArray } ∧ IntsAre vs ns ∧ ns.length ≤ n := by
  have hsh : WShape.hasAll [] args [.list .int] = true := (pre_splitW hpre).1
  have hc : l.pre.holds [] { args := args } = true := (pre_splitW hpre).2
  obtain ⟨d, r, rfl, h1, h2⟩ := hasAllW_cons hsh
  obtain rfl := hasAllW_nil h2
  obtain ⟨xs, rfl, h3⟩ := hasW_list h1
  obtain ⟨ns, rfl⟩ := items_int h3
  have hlen : ns.length ≤ n := by
    unfold OpenLaw.pre at hc
    have h4 : (WTm.not (.lt (.lit (.int (n : Int))) (.len (.arg 0)))).holds [] { args := [.list (ns.map .int)] } = true := by
      have h4 := (holds_andW hc).1
      rw [hn] at h4
      exact h4
    have h5 := condW_of h4 (w_not (w_lt w_lit (w_len_list (w_arg rfl))))
    rw [List.length_map] at h5
    refine Nat.le_of_not_lt fun q => ?_
    have q' : (n : Int) < ((ns.length : Nat) : Int) := by omega
    first
      | (rw [decide_eq_true q'] at h5; exact absurd h5 (by decide))
      | (simp at h5; omega)
  cases hwl with
  | cons w1 w2 =>
    cases w2
    cases w1 with
    | list ho hall => exact ⟨_, _, ns, rfl, rfl, ho, ints_of_wellAll ns _ hall, hlen⟩

theorem post_true (l : OpenLaw) (args : List WData) : l.row.toRowW.claim.post args (.bool true) args = true :=
  postW_of (r := l.row.toRowW) (X := (true == true))
    (show WShape.has [] (.bool true) .bool = true by first | rfl | decide | simp [WShape.has, WShape.arms, WShape.armsAll])
    (show (WTm.eq .res (.lit (.bool true))).value [] { args := args, res := some (.bool true), after := args } = some (.bool (true == true)) from w_eq_bool (w_res rfl) w_lit) rfl

/-! ### the attachment: holds_open's last premise (the goal 'hc' behind k_head) from a wpAny of the law's body -/
/-- the same from a codeAny of the CALL (for a layer whose function contracts speak of calls) -/
theorem attach_call {l : OpenLaw} {n : Nat} {q : Program} {loose : List Str} {XP : (Str → Option Value) → Heap → Prop} {YP : World → Heap → Prop} {d : DefRec}
    (hn : l.most = some n) (hdf : d.params.defaults = [])
    (call : ∀ (w : World) (s₀ s₁ : Shared) (mg mb : Str → Option Value) (fa : Addr) (o : Obj) (pm cd doc : Value) (a : Addr) (vs : List Value) (ns : List Int),
      Ground q loose [] XP w s₀ mg mb s₁.heap → YP w s₁.heap →
      s₁.heap.get? fa = some o → o.data = .func (docDef d.name d.params d.body d.scope pm cd doc) → s₁.heap.CodeRec cd d.name → mg d.name = some (.ref fa) →
      s₁.heap.get? a = some { cls := .type "list", data := .seq vs.toArray } → IntsAre vs ns → ns.length ≤ n → s₁.gens = #[] →
      codeAny (model l.prog w) callerA (.call (.ref fa) ⟨[.ref a], []⟩) (fun r s' => r = .ok (.ret (.bool true)) ∧ OldK s₁.heap s'.heap ∧ s'.os = s₁.os ∧ AllBare s'.gens) s₁) :
    WalkO q loose XP YP l.row.toRowW d [] (fun f vs => PySem.call f vs) := by
  intro w s₀ s₁ mg mb G Y fa o pm cd doc dV kV ho hd hcd hD hmg hg args vals as hpre hlay hrd hwl hlo
  obtain rfl : dV = .none := Dflts.none hD hdf
  obtain rfl : kV = .none := Dflts.noKw hD
  obtain ⟨a, vs, ns, rfl, rfl, hobj, hints, hlen⟩ := script_of hn hpre hwl
  refine enter_call (codeAny_mono (call w s₀ s₁ mg mb fa o pm cd doc a vs ns G Y ho (fd_plain hd) hcd hmg hobj hints hlen hg) fun r s' hq => ?_)
  obtain ⟨rfl, h2, h3, h4⟩ := hq
  exact ⟨.inl ⟨.bool true, .bool true, [], rfl, fun _ => rfl, .bool true, post_true l _, fun _ => ⟨List.Pairwise.nil, fun _ hm => (nomatch hm)⟩⟩, h2, h3, h4⟩

/-! ### rules over ANY heap (no ledger) from facts about the written part K: the library's own take a ledger (News) for what they write -/
section
variable {prog : Program} {w : World} {A : Around} {E : Value → Shared → Prop} {s : Shared} {K : Frag}

/-! the whole heap as the ledger: makes every rule that writes through a ledger a rule over any heap -/
def ledger (h : Heap) (L d : Addr) : List (Addr × Obj) := (List.range h.objs.size).filterMap fun a => if a = L ∨ a = d then none else (h.get? a).map fun o => (a, o)
end
end Att

namespace L2
open PySem PySem.Spec PyProof.Rows

theorem vals_ints : ∀ {vs : List Value} {ns : List Int}, IntsAre vs ns → Vals (ns.map V.int) vs
  | _, _, .nil => .nil
  | _, _, .cons n t h => .cons ⟨t, rfl⟩ (vals_ints h)

/-- nothing is tracked but the script, known to the object (or it is an object of the module) -/
def Only (H : Hp) : Prop := ∀ b, H b = none ∨ ∃ o xs, H b = some (.frz o (.lst xs))

/-- THE HEAD: the law's promise, at the heap behind the top. F, the promise of the law's def, may use that base is part of the heap (so K.In base, base.Ns mainGlobals mg stand in Mod) -/
theorem law_call {P : Program} {w : World} {K : PySem.W.Frag} {mg mb : Str → Option Value} {CX : CXT} {k : Nat} {fa a : Addr} {fd : FuncData} {x : Str} {sp : Sp} {s₁ : Shared} {vs : List Value} {ns : List Int}
    (KX : K.In s₁.heap) (hns : s₁.heap.Ns mainGlobals mg) (hb : s₁.heap.Ns builtinsNs mb) (hbb : ∀ x : Str, x ≠ "__name__" → mb x = bootBuiltins x) (hlim : s₁.heap.NoLimit) (hg : s₁.gens = #[])
    (ha : s₁.heap.get? a = some { cls := .type "list", data := .seq vs.toArray }) (hi : IntsAre vs ns) (hl : ns.length ≤ sizeLine) (hr : Room k callerA)
    (F : ∀ base : Heap, K.In base → base.Ns mainGlobals mg → FnOk P w K mg base CX k fa fd [x] sp) (hbind : ∀ (s : Shared) (u : Value), BindsTo s fd ⟨[u], []⟩ [(x, u)])
    (hsp : ∀ H : Hp, Only H → SqL K H a (ns.map V.int) → sp [.ref a] H (fun v _ => v = .bl true) fun _ _ _ => False)
    (hCX : ∀ H e s', CX [] H s₁ (fun _ _ _ => False) e s' → False) :
    codeAny (model P w) callerA (.call (.ref fa) ⟨[.ref a], []⟩) (fun r s' => r = .ok (.ret (.bool true)) ∧ OldK s₁.heap s'.heap ∧ s'.os = s₁.os ∧ AllBare s'.gens) s₁ := by
  have rv := vals_ints hi
  have lenV := hi.length
  -- from an abstract heap in which nothing but the script may be tracked
  have core : ∀ H : Hp, Only H → SqL K H a (ns.map V.int) → HOk P w H s₁.heap → (∀ b, H b ≠ none → b = a) → (H a ≠ none → K.lookup a = none) →
      codeAny (model P w) callerA (.call (.ref fa) ⟨[.ref a], []⟩) (fun r s' => r = .ok (.ret (.bool true)) ∧ OldK s₁.heap s'.heap ∧ s'.os = s₁.os ∧ AllBare s'.gens) s₁ := by
    intro H hO hS hok hA hK
    have base_of : ∀ {b : Addr} {o : Obj}, s₁.heap.get? b = some o → H b = none → (hidT s₁.heap H).get? b = some o := fun e n => hidT_get e n
    have noA : ∀ {b : Addr} {o : Obj} {es : Array DictEntry} {ep : Nat}, s₁.heap.get? b = some o → o.data = .dict es ep → H b = none := fun {b o es ep} e d => by
      cases q : H b with
      | none => rfl
      | some u =>
        have e' : b = a := hA b (by rw [q]; simp)
        subst e'
        rw [ha] at e; cases e
        have d' : Data.seq vs.toArray _ = Data.dict es ep := d
        cases d'
    have nsK : ∀ {b : Addr} {m : Str → Option Value}, s₁.heap.Ns b m → (hidT s₁.heap H).Ns b m := fun {b m} ⟨o, es, ep, e, d, r⟩ => ⟨o, es, ep, base_of e (noA e d), d, r⟩
    have hKb : K.In (hidT s₁.heap H) := fun b o e => base_of (KX b o e) (by
      cases q : H b with
      | none => rfl
      | some u =>
        have e' : b = a := hA b (by rw [q]; simp)
        subst e'
        rw [hK (by rw [q]; simp)] at e; cases e)
    have hM : Mod K mg (hidT s₁.heap H) := ⟨hKb, nsK hns, ⟨mb, nsK hb, hbb⟩, let ⟨mc, h1, h2⟩ := hlim; ⟨mc, nsK h1, h2⟩⟩
    have e0 : Env0 P w K mg (hidT s₁.heap H) callerA [] s₁ H := ⟨rfl, hM, fun b o e => of_hidT e, Nat.le_of_eq (hidT_size _ _), trivial, fun b hb => absurd (show b ∈ ([] : List Addr) from hb) (by simp), hok, .of_eq hg⟩
    refine codeAny_mono ((F _ hKb (nsK hns)).run callerA [] s₁ H ⟨[.ref a], []⟩ [.ref a] [.ref a] _ _ hr e0 (hbind s₁ (.ref a)) (.cons rfl .nil) (hsp H hO hS)) fun r s' h => ?_
    cases r with
    | error e => exact (hCX H e s' h).elim
    | ok fl =>
      cases fl with
      | next => exact False.elim h
      | brk => exact False.elim h
      | cont => exact False.elim h
      | ret u =>
        obtain ⟨v, H', os, bare, un, hok', r', q⟩ := h
        have q' : v = .bl true := q
        subst q'
        obtain rfl : u = Value.bool true := r'
        refine ⟨rfl, OldK.of_keep fun b o e => ?_, os, bare⟩
        cases q : H b with
        | none => exact un.keep b o e q (by intro z; exact absurd (show b ∈ ([] : List Addr) from z) (by simp)) (by simp)
        | some u =>
          rcases hO b with z | ⟨ob, xs, z⟩
          · rw [q] at z; cases z
          · have z2 := un.frzs b ob _ z
            obtain ⟨e1, _⟩ := hok b _ z
            obtain ⟨e2, _⟩ := hok' b _ z2
            rw [e] at e1; cases e1
            exact e2
  cases hk : K.lookup a with
  | some o =>
    -- the script is one of the module's own objects
    have e := KX a o hk
    rw [ha] at e
    cases e
    refine core (fun _ => none) (fun _ => .inl rfl) (.inr ⟨_, vs.toArray, _, hk, rfl, rfl, rfl, by rw [List.size_toArray, lenV]; exact hl, by simpa using rv⟩) (fun b u z => by have z' : (none : Option HO) = some u := z; cases z') (fun b z => absurd rfl z) fun z => absurd rfl z
  | none =>
    refine core (fun b => if b = a then some (.frz { cls := .type "list", data := .seq vs.toArray } (.lst (ns.map V.int))) else none) (fun b => ?_) (.inl (.inr ⟨{ cls := .type "list", data := .seq vs.toArray }, if_pos rfl⟩)) (fun b u z => ?_) (fun b z => ?_) fun _ => hk
    · by_cases hb : b = a
      · exact .inr ⟨_, _, if_pos hb⟩
      · exact .inl (if_neg hb)
    · by_cases hb : b = a
      · have z' := (if_pos hb).symm.trans z
        cases z'
        subst hb
        exact ⟨ha, by rw [List.length_map]; exact hl, vs, _, rv, ha⟩
      · have z' := (if_neg hb).symm.trans z
        cases z'
    · by_cases hb : b = a
      · exact hb
      · exact absurd (if_neg hb) z
end L2

namespace L2
open PySem PySem.Spec PyProof.Rows

abbrev KOf {K : PySem.W.Frag} {h : Heap} (_ : K.In h) : PySem.W.Frag := K

/-- the goal that k_head leaves (case hc), from the law's promise. F gives the function object fd (K's own) once, then the promise over every base -/
theorem walk_of {l : PySem.W.OpenLaw} {n k : Nat} {q : Program} {loose : List Str} {XP : (Str → Option Value) → Heap → Prop} {YP : World → Heap → Prop} {d : DefRec} {K : Params → PySem.W.Frag} {CX : World → CXT} {sp : World → Sp} {x : Str}
    (hn : l.most = some n) (hn2 : n ≤ sizeLine) (hdf : d.params.defaults = []) (hr : Room k callerA)
    (hY : ∀ (w : World) (h : Heap), YP w h → (K w.params).In h)
    (F : ∀ (w : World) (mg : Str → Option Value) (fa : Addr) (h : Heap), (K w.params).In h → h.Ns mainGlobals mg → mg d.name = some (.ref fa) →
      ∃ fd : FuncData, (∀ (s : Shared) (u : Value), BindsTo s fd ⟨[u], []⟩ [(x, u)]) ∧
        ∀ base : Heap, (K w.params).In base → base.Ns mainGlobals mg → FnOk l.prog w (K w.params) mg base (CX w) k fa fd [x] (sp w))
    (hsp : ∀ (w : World) (H : Hp) (a : Addr) (ns : List Int), ns.length ≤ n → Only H → SqL (K w.params) H a (ns.map V.int) → sp w [.ref a] H (fun v _ => v = .bl true) fun _ _ _ => False)
    (hCX : ∀ (w : World) (H : Hp) (s : Shared) (e : Value) (s' : Shared), CX w [] H s (fun _ _ _ => False) e s' → False) :
    PySem.W.WalkO q loose XP YP l.row.toRowW d [] (fun f vs => PySem.call f vs) := by
  refine Att.attach_call hn hdf fun w s₀ s₁ mg mb fa o pm cd doc a vs ns G Y ho hd hcd hmg hobj hints hlen hg => ?_
  have KX := hY w _ Y
  obtain ⟨fd, hb, hF⟩ := F w mg fa _ KX G.T.g hmg
  exact law_call KX G.T.g G.T.b G.T.builtins G.T.nolimit hg hobj hints (Nat.le_trans hlen hn2) hr hF hb (fun H hO hS => hsp w H a ns hlen hO hS) fun H e s' => hCX w H s₁ e s'
/-- the same where the promise hangs on the written part alone: (sp := My.sp_law), no hole under a binder -/
theorem walk_ofK {l : PySem.W.OpenLaw} {n k : Nat} {q : Program} {loose : List Str} {XP : (Str → Option Value) → Heap → Prop} {YP : World → Heap → Prop} {d : DefRec} {K : Params → PySem.W.Frag} {CX : CXT} {sp : PySem.W.Frag → Sp} {x : Str}
    (hn : l.most = some n) (hn2 : n ≤ sizeLine) (hdf : d.params.defaults = []) (hr : Room k callerA)
    (hY : ∀ (w : World) (h : Heap), YP w h → (K w.params).In h)
    (F : ∀ (w : World) (mg : Str → Option Value) (fa : Addr) (h : Heap), (K w.params).In h → h.Ns mainGlobals mg → mg d.name = some (.ref fa) →
      ∃ fd : FuncData, (∀ (s : Shared) (u : Value), BindsTo s fd ⟨[u], []⟩ [(x, u)]) ∧
        ∀ base : Heap, (K w.params).In base → base.Ns mainGlobals mg → FnOk l.prog w (K w.params) mg base CX k fa fd [x] (sp (K w.params)))
    (hsp : ∀ (K : PySem.W.Frag) (H : Hp) (a : Addr) (ns : List Int), ns.length ≤ n → Only H → SqL K H a (ns.map V.int) → sp K [.ref a] H (fun v _ => v = .bl true) fun _ _ _ => False)
    (hCX : ∀ (H : Hp) (s : Shared) (e : Value) (s' : Shared), CX [] H s (fun _ _ _ => False) e s' → False) :
    PySem.W.WalkO q loose XP YP l.row.toRowW d [] (fun f vs => PySem.call f vs) :=
  walk_of (K := K) (CX := fun _ => CX) (sp := fun w => sp (K w.params)) hn hn2 hdf hr hY F (fun w H a ns h1 h2 h3 => hsp (K w.params) H a ns h1 h2 h3) fun _ H s e s' => hCX H s e s'
end L2

/- THE LAST THEOREM (shape; LID, My.* are yours):
   My.Adr: a structure of the addresses that your layer names (classes, functions); My.Txt K t: a structure (Prop) of the equations over K;
   My.txt_mk : {K} {implicit addresses ..} (e1 : nsIn K mainGlobals "law" = some (some (.ref f))) (e2 : K.lookup f = some ⟨oc, od, .func (fnOf "law" "law" params body scope dV kV doc pm an cdv ct), sl⟩) (e3 : codeIn K cdv "law" = true) .. : ∃ t, My.Txt K t

set_option maxRecDepth 100000 in
set_option maxHeartbeats 0 in
theorem PySem.Challenge.cw_LID_holds : PySem.Challenge.rw_LID.Holds := by
  w_on; o_law; k_head; (case hw => w_witness2)
  k_fill
  refine L2.walk_of (l := PySem.Challenge.rw_LID) (n := 63) (k := 40) (x := "script") (CX := fun w => ..) (sp := fun _ => My.sp_law) rfl (by decide) rfl ⟨rfl, by decide, by decide⟩ (fun w h Y => PySem.W.kIn_of Y) ?F ?S ?C
  case F =>
    intro w mg fa h KX G hmg
    have T : ∃ t, My.Txt (L2.KOf KX) t := by
      dsimp only [L2.KOf]                          -- K must stand as «<heap const> w.params» for k_is
      refine' My.txt_mk ?e1 ?e2 ?e3 ..
      (case e1 => PySem.W.k_is)                    -- in the order: a name -> its address -> its object -> its parts
      (case e2 => PySem.W.k_is)
      ..
    obtain ⟨t, T⟩ := T
    have e0 := hmg.symm.trans (PySem.W.mg_of KX G T.law)
    cases e0                                       -- fa is the law's own address
    exact ⟨_, fun s u => .of_eq rfl, fun base kb nb => My.law_fn T kb nb⟩     -- if «.of_eq rfl» comes too early: refine' ⟨_, ?b, fun base kb nb => My.law_fn T kb nb⟩; exact fun s u => .of_eq rfl
  case S => exact fun w H a ns hl hO hS => ..
  case C => exact ..
(the tactic k_is has no namespace: write k_is) -/

/-! SHORT WORDS over the layer: a def of the text, its body, what a loop and a test want. -/
namespace L2
open PySem PySem.Spec PyProof.Rows

/-! ### the text by places -/
def defArgs (s : Stmt) : Arguments := match s with
  | .FunctionDef _ a _ _ _ _ _ _ _ _ => a
  | _ => { posonlyargs := [], args := [], vararg := none, kwonlyargs := [], kw_defaults := [], kwarg := none, defaults := [] }
def defBody (s : Stmt) : List Stmt := match s with
  | .FunctionDef _ _ b _ _ _ _ _ _ _ => b
  | _ => []
def defScope (s : Stmt) : Scope := match s with
  | .FunctionDef _ _ _ _ _ _ sc _ _ _ => sc
  | _ => { kind := .function, names := [], isGenerator := false, isCoroutine := false }

/-! ### no exception leaves a def -/
abbrev CX0 : CXT := fun _ _ _ _ _ _ => False
abbrev E0 : XK := fun _ _ _ => False
theorem pass0 {X : Cx} : Passes CX0 X E0 := fun _ _ _ _ _ _ _ h => h.elim

/-! ### a def (or method) of the text as it stands behind the top -/
structure Fun (K : PySem.W.Frag) (x qual : Str) (st : Stmt) (f : Addr) (fd : FuncData) : Prop where
  ex : ∃ (oc : Value) (od : Option Addr) (kV doc pm : Value) (an : Option Addr) (cdv ct : Value) (osl : Array (Option Value)),
    fd = PySem.W.fnOf x qual (defArgs st) (defBody st) (defScope st) .none kV doc pm an cdv ct ∧ K.lookup f = some ⟨oc, od, .func fd, osl⟩ ∧ PySem.W.codeIn K cdv qual = true
  kp : PySem.W.keepIn K (.ref f) = true
section
variable {P : Program} {w : World} {K : PySem.W.Frag} {mg : Str → Option Value} {base : Heap}
/-- THE RULE for a def: its body as a term of rules, and the reading of that term -/
theorem Fun.ok {x qual : Str} {st : Stmt} {f : Addr} {fd : FuncData} {N ps : List Str} {k : Nat} {sp : Sp} (F : Fun K x qual st f fd) (S : FnScope N ps (defScope st)) (len : ∀ vs H Q E, sp vs H Q E → vs.length = ps.length)
    (hbody : ∀ (cdv : Value) (A : Around) (outer : List Env) (s : Shared) (H : Hp) (vs : List V) (Q : VK) (E : XK), Room k (A.deeper (envOfC qual (defScope st) s.heap.objs.size f cdv)) → sp vs H Q E →
      ∃ t, PSs (cxOf CX0 P w K mg base N qual (defScope st) f cdv A outer s H E).nox (defBody st) t ∧ t { nx := fun _ H' => Q .non H', rt := Q } (start N vs) H) : FnOk P w K mg base CX0 (k + 1) f fd ps sp := by
  obtain ⟨oc, od, kV, doc, pm, an, cdv, ct, osl, rfl, lk, hcd⟩ := F.ex
  refine fn_of lk hcd S len fun A outer s H vs Q E hr hsp => ?_
  obtain ⟨t, h, q⟩ := hbody cdv A outer s H vs Q E hr hsp
  exact ⟨t, h.nox, q⟩
/-- how its arguments bind (no defaults): h is «fun _ _ _ _ _ _ us hl => match us, hl with | [_, _], _ => rfl», one _ a parameter -/
theorem Fun.binds {x qual : Str} {st : Stmt} {f : Addr} {fd : FuncData} {ps : List Str} (F : Fun K x qual st f fd)
    (h : ∀ (kV doc pm : Value) (an : Option Addr) (cdv ct : Value) (us : List Value), us.length = ps.length → bindArgs (PySem.W.fnOf x qual (defArgs st) (defBody st) (defScope st) .none kV doc pm an cdv ct) ⟨us, []⟩ = pure (ps.zip us)) : Binds K fd ps [] := by
  obtain ⟨oc, od, kV, doc, pm, an, cdv, ct, osl, rfl, lk, hcd⟩ := F.ex
  exact .all (h kV doc pm an cdv ct)
theorem fun_mk {x qual : Str} {st : Stmt} {f : Addr} {oc : Value} {od an : Option Addr} {osl : Array (Option Value)} {kV doc pm cdv ct : Value} (l : K.lookup f = some ⟨oc, od, .func (PySem.W.fnOf x qual (defArgs st) (defBody st) (defScope st) .none kV doc pm an cdv ct), osl⟩)
    (c : PySem.W.codeIn K cdv qual = true) (k : PySem.W.keepIn K (.ref f) = true) : Fun K x qual st f (PySem.W.fnOf x qual (defArgs st) (defBody st) (defScope st) .none kV doc pm an cdv ct) := ⟨⟨oc, od, kV, doc, pm, an, cdv, ct, osl, rfl, l, c⟩, k⟩
end
theorem hu_of {A : Around} {k : Nat} (hr : Room k A) : A.units + 1 < cLine := Nat.lt_of_le_of_lt (Nat.add_le_add_left (by decide : 1 ≤ 64) _) hr.units
/-! ### expressions in short: the name that stands in the i-th slot -/
section
variable {X : Cx}
theorem pv (i : Nat) {x : Str} {pos : Pos} (hN : X.N[i]? = some x := by rfl) (hv : Vis X.env.scope x := by first | exact Or.inl rfl | exact Or.inr (Or.inl rfl) | exact Or.inr (Or.inr rfl)) (hd : (x == ("__debug__" : Str)) = false := by decide)
    (hcd : (x == ("__classdict__" : Str)) = false := by decide) : PE X (.Name x pos) (tVar i) := pe_var hN hv hd hcd
end

/-! ### tests -/
theorem iteF {A B : Prop} (h : B) : if false = true then A else B := by
  rw [if_neg Bool.false_ne_true]
  exact h
theorem ite2 {c A B : Prop} [Decidable c] (h1 : c → A) (h2 : ¬ c → B) : if c then A else B := by
  by_cases h : c
  · rw [if_pos h]
    exact h1 h
  · rw [if_neg h]
    exact h2 h
/-! ### heaps -/
/-- all that was tracked is as it was -/
def Same (H H' : Hp) : Prop := ∀ b o, H b = some o → H' b = some o
theorem Same.refl (H : Hp) : Same H H := fun _ _ h => h
theorem Same.trans {H H1 H2 : Hp} (a : Same H H1) (b : Same H1 H2) : Same H H2 := fun c o h => b c o (a c o h)
theorem Same.free {H H' : Hp} (e : Same H H') {l : Addr} (h : H' l = Option.none) : H l = Option.none := by
  cases q : H l with
  | none => rfl
  | some o =>
    rw [e l o q] at h
    cases h
theorem Same.seq {K : PySem.W.Frag} {H H' : Hp} {a : Addr} {xs : List V} (e : Same H H') (h : SqL K H a xs) : SqL K H' a xs := by
  rcases h with (h | ⟨o, h⟩) | h
  · exact .inl (.inl (e _ _ h))
  · exact .inl (.inr ⟨o, e _ _ h⟩)
  · exact .inr h

end L2

set_option Elab.async false
set_option maxRecDepth 100000
namespace L2
open PySem PySem.Spec PyProof.Rows

/-! ### lists of pairs as tables -/
section
variable {κ : Type} [DecidableEq κ]
def valV (kvs : List (κ × V)) (k : κ) : Option V := (kvs.find? fun kv => decide (kv.1 = k)).map (·.2)
/-- in its place, or at the end -/
def putK (kvs : List (κ × V)) (k : κ) (v : V) : List (κ × V) :=
  if (kvs.any fun kv => decide (kv.1 = k)) = true then kvs.map (fun kv => if kv.1 = k then (kv.1, v) else kv) else kvs ++ [(k, v)]
def dropK (kvs : List (κ × V)) (k : κ) : List (κ × V) := kvs.filter fun kv => decide (kv.1 ≠ k)

theorem valV_pos {p : κ × V} {r : List (κ × V)} {k : κ} (e : p.1 = k) : valV (p :: r) k = some p.2 := by simp [valV, List.find?_cons, e]
theorem valV_neg {p : κ × V} {r : List (κ × V)} {k : κ} (e : ¬ p.1 = k) : valV (p :: r) k = valV r k := by simp [valV, List.find?_cons, e]
theorem valV_any (k : κ) : ∀ kvs : List (κ × V), (kvs.any fun kv => decide (kv.1 = k)) = (valV kvs k).isSome
  | [] => rfl
  | p :: r => by
    rw [List.any_cons]
    by_cases e : p.1 = k
    · simp only [valV_pos e, decide_eq_true e, Bool.true_or, Option.isSome_some]
    · rw [valV_neg e, decide_eq_false e, Bool.false_or]; exact valV_any k r
theorem RelO.isSome_eq {o : Option V} {u : Option Value} (r : RelO o u) : o.isSome = u.isSome := by
  cases o with
  | none => cases u with
    | none => rfl
    | some _ => exact (show False from r).elim
  | some _ => cases u with
    | none => exact (show False from r).elim
    | some _ => rfl
theorem RelO.getD {o : Option V} {u : Option Value} {d : V} {d' : Value} (r : RelO o u) (rd : RelV d d') : RelV (o.getD d) (u.getD d') := by
  cases o with
  | none => cases u with
    | none => exact rd
    | some _ => exact (show False from r).elim
  | some _ => cases u with
    | none => exact (show False from r).elim
    | some _ => exact r

/-- raw tables of the same keys -/
theorem KV.val {kvs : List (κ × V)} {vs : List (κ × Value)} (r : KV kvs vs) (k : κ) : RelO (valV kvs k) (valueAt vs k) := by
  unfold KV at r
  induction r with
  | nil => exact True.intro
  | @cons p q ps qs h t ih =>
    obtain ⟨h1, h2⟩ := h
    by_cases e : p.1 = k
    · have e' : q.1 = k := h1.symm.trans e
      have b : valueAt (q :: qs) k = some q.2 := by simp [valueAt, List.find?_cons, e']
      rw [valV_pos e, b]; exact h2
    · have e' : ¬ q.1 = k := fun z => e (h1.trans z)
      have b : valueAt (q :: qs) k = valueAt qs k := by simp [valueAt, List.find?_cons, e']
      rw [valV_neg e, b]; exact ih
theorem KV.any {kvs : List (κ × V)} {vs : List (κ × Value)} (r : KV kvs vs) (k : κ) : (kvs.any fun kv => decide (kv.1 = k)) = vs.any fun kv => decide (kv.1 = k) := by
  unfold KV at r
  induction r with
  | nil => rfl
  | cons h t ih => rw [List.any_cons, List.any_cons, ih, h.1]
theorem KV.repl {kvs : List (κ × V)} {vs : List (κ × Value)} (r : KV kvs vs) (k : κ) {y : V} {u : Value} (ry : RelV y u) :
    KV (kvs.map fun kv => if kv.1 = k then (kv.1, y) else kv) (vs.map fun kv => if kv.1 = k then (kv.1, u) else kv) := by
  unfold KV at r ⊢
  induction r with
  | nil => exact .nil
  | @cons p q ps qs h t ih =>
    rw [List.map_cons, List.map_cons]
    refine .cons ?_ ih
    obtain ⟨h1, h2⟩ := h
    by_cases e : p.1 = k
    · rw [if_pos e, if_pos (h1.symm.trans e)]; exact ⟨h1, ry⟩
    · rw [if_neg e, if_neg (fun z => e (h1.trans z))]; exact ⟨h1, h2⟩
theorem KV.put {kvs : List (κ × V)} {vs : List (κ × Value)} (r : KV kvs vs) (k : κ) {y : V} {u : Value} (ry : RelV y u) : KV (putK kvs k y) (stored vs k u) := by
  unfold putK stored
  rw [r.any k]
  by_cases e : (vs.any fun kv => decide (kv.1 = k)) = true
  · rw [if_pos e, if_pos e]; exact r.repl k ry
  · rw [if_neg e, if_neg e]; exact Paired.snoc r ⟨rfl, ry⟩
theorem KV.drop {kvs : List (κ × V)} {vs : List (κ × Value)} (r : KV kvs vs) (k : κ) : KV (dropK kvs k) (without vs k) := by
  unfold KV at r ⊢
  unfold dropK without
  induction r with
  | nil => exact .nil
  | @cons p q ps qs h t ih =>
    obtain ⟨h1, h2⟩ := h
    rw [List.filter_cons, List.filter_cons]
    by_cases e : p.1 = k
    · have a : ¬ decide (p.1 ≠ k) = true := by simp [e]
      have b : ¬ decide (q.1 ≠ k) = true := by simp [h1.symm.trans e]
      rw [if_neg a, if_neg b]; exact ih
    · have e' : ¬ q.1 = k := fun z => e (h1.trans z)
      have a : decide (p.1 ≠ k) = true := by simp [e]
      have b : decide (q.1 ≠ k) = true := by simp [e']
      rw [if_pos a, if_pos b]; exact .cons ⟨h1, h2⟩ ih
theorem KV.keys {kvs : List (κ × V)} {vs : List (κ × Value)} (r : KV kvs vs) : kvs.map (·.1) = vs.map (·.1) := by
  unfold KV at r
  induction r with
  | nil => rfl
  | cons h t ih => rw [List.map_cons, List.map_cons, ih, h.1]
theorem KV.length {kvs : List (κ × V)} {vs : List (κ × Value)} (r : KV kvs vs) : kvs.length = vs.length := Paired.length r
end


/-! ### a tracked dict, its keys ints and texts or tuples of these -/
/-- raw entries of a dict with tuple keys -/
abbrev KT (H : Hp) : List (List Key × V) → List (List Key × Addr × Value) → Prop := Paired fun p q => p.1 = q.1 ∧ H q.2.1 = some (.tup (p.1.map kV)) ∧ RelV p.2 q.2.2
theorem KT.val {H : Hp} {kvs : List (List Key × V)} {xs : List (List Key × Addr × Value)} (r : KT H kvs xs) (k : List Key) : RelO (valV kvs k) ((atKey xs k).map (·.2)) := by
  induction r with
  | nil => exact True.intro
  | @cons p q ps qs h t ih =>
    obtain ⟨h1, _, h2⟩ := h
    by_cases e : p.1 = k
    · have e' : q.1 = k := h1.symm.trans e
      have b : atKey (q :: qs) k = some q.2 := by simp [atKey, List.find?_cons, e']
      rw [valV_pos e, b]; exact h2
    · have e' : ¬ q.1 = k := fun z => e (h1.trans z)
      have b : atKey (q :: qs) k = atKey qs k := by simp [atKey, List.find?_cons, e']
      rw [valV_neg e, b]; exact ih
theorem KT.repl {H : Hp} {kvs : List (List Key × V)} {xs : List (List Key × Addr × Value)} (r : KT H kvs xs) (k : List Key) {y : V} {u : Value} (ry : RelV y u) :
    KT H (kvs.map fun kv => if kv.1 = k then (kv.1, y) else kv) (xs.map (putAt k u)) := by
  induction r with
  | nil => exact .nil
  | @cons p q ps qs h t ih =>
    rw [List.map_cons, List.map_cons]
    refine .cons ?_ ih
    obtain ⟨h1, h2, h3⟩ := h
    unfold putAt
    by_cases e : p.1 = k
    · rw [if_pos e, if_pos (h1.symm.trans e)]; exact ⟨h1, h2, ry⟩
    · rw [if_neg e, if_neg (fun z => e (h1.trans z))]; exact ⟨h1, h2, h3⟩
theorem KT.put {H : Hp} {kvs : List (List Key × V)} {xs : List (List Key × Addr × Value)} (r : KT H kvs xs) (k : List Key) {b : Addr} {y : V} {u : Value} (hb : H b = some (.tup (k.map kV))) (ry : RelV y u) :
    KT H (putK kvs k y) (storedH xs k b u) := by
  have e : (kvs.any fun kv => decide (kv.1 = k)) = (atKey xs k).isSome := by
    rw [valV_any, (r.val k).isSome_eq, Option.isSome_map]
  unfold putK storedH
  rw [e]
  by_cases q : (atKey xs k).isSome = true
  · rw [if_pos q, if_pos q]; exact r.repl k ry
  · rw [if_neg q, if_neg q]; exact Paired.snoc r ⟨rfl, hb, ry⟩
theorem KT.keeps {H H' : Hp} {kvs : List (List Key × V)} {xs : List (List Key × Addr × Value)} (r : KT H kvs xs) (ht : ∀ b ys, H b = some (.tup ys) → H' b = some (.tup ys)) : KT H' kvs xs :=
  Paired.mapP r fun _ _ z => ⟨z.1, ht _ _ z.2.1, z.2.2⟩

section
variable {P : Program} {w : World} {H : Hp} {h : Heap} {a : Addr}
end

/-- what the dict at a holds at the key y -/
def DGet (H : Hp) (a : Addr) (y : V) (r : Option V) : Prop :=
  (∃ kvs k, Rd H a (.dK kvs) ∧ y = kV k ∧ r = valV kvs k) ∨ ∃ kvs k b, Rd H a (.dT kvs) ∧ y = .ref b ∧ H b = some (.tup (k.map kV)) ∧ r = valV kvs k
/-- the heap behind a[y] = v -/
def DPut (H : Hp) (a : Addr) (y v : V) (H' : Hp) : Prop :=
  (∃ kvs k, H a = some (.dK kvs) ∧ y = kV k ∧ kvs.length < sizeLine ∧ H' = upd H a (.dK (putK kvs k v))) ∨
  ∃ kvs k b, H a = some (.dT kvs) ∧ y = .ref b ∧ H b = some (.tup (k.map kV)) ∧ kvs.length < sizeLine ∧ H' = upd H a (.dT (putK kvs k v))
theorem DGet.k {H : Hp} {a : Addr} {kvs : List (Key × V)} {k : Key} (e : H a = some (.dK kvs)) : DGet H a (kV k) (valV kvs k) := .inl ⟨kvs, k, .inl e, rfl, rfl⟩
theorem DGet.t {H : Hp} {a b : Addr} {kvs : List (List Key × V)} {k : List Key} (e : H a = some (.dT kvs)) (eb : H b = some (.tup (k.map kV))) : DGet H a (.ref b) (valV kvs k) := .inr ⟨kvs, k, b, .inl e, rfl, eb, rfl⟩
theorem DPut.k {H : Hp} {a : Addr} {kvs : List (Key × V)} {k : Key} {v : V} (e : H a = some (.dK kvs)) (hl : kvs.length < sizeLine) : DPut H a (kV k) v (upd H a (.dK (putK kvs k v))) := .inl ⟨kvs, k, e, rfl, hl, rfl⟩
theorem DPut.t {H : Hp} {a b : Addr} {kvs : List (List Key × V)} {k : List Key} {v : V} (e : H a = some (.dT kvs)) (eb : H b = some (.tup (k.map kV))) (hl : kvs.length < sizeLine) :
    DPut H a (.ref b) v (upd H a (.dT (putK kvs k v))) := .inr ⟨kvs, k, b, e, rfl, eb, hl, rfl⟩


section
variable {X : Cx} {pins : List (Addr × Obj)} {σ : St} {H : Hp} {s : Shared} {a : Addr} {y v : V} {u r : Value} {o : Option V} {A : Around} {E : Value → Shared → Prop}

end

section
variable {X : Cx} {pins : List (Addr × Obj)} {σ : St} {H : Hp} {s : Shared} {a : Addr} {kvs : List (Key × V)} {k : Key} {u : Value} {A : Around} {E : Value → Shared → Prop}
end


/-! ### readings and rules -/
/-- d[y] -/
def tDGet (td ty : TE) : TE := fun σ H Q => td σ H fun x H1 => ty σ H1 fun y H2 => ∃ a v, x = .ref a ∧ DGet H2 a y (some v) ∧ Q v H2
section
variable {X : Cx} {o i e value : Expr} {pos pos' tpos : Pos} {td ty tv : TE}
end


/-! ### displays -/
/-- {}, to be a dict of the kind that is wanted -/
def tDNewK : TE := fun _ H Q => ∀ p, H p = none → Q (.ref p) (upd H p (.dK []))
def tDNewT : TE := fun _ H Q => ∀ p, H p = none → Q (.ref p) (upd H p (.dT []))
section
variable {X : Cx} {pos : Pos}
end

/-- the pairs of a display, from the left -/
def tPairs : List (TE × TE) → St → Hp → (List (V × V) → Hp → Prop) → Prop
  | [], _, H, Q => Q [] H
  | (tk, tv) :: r, σ, H, Q => tk σ H fun x H1 => tv σ H1 fun y H2 => tPairs r σ H2 fun ps H3 => Q ((x, y) :: ps) H3
def mergeK (kvs more : List (Key × V)) : List (Key × V) := more.foldl (fun acc kv => putK acc kv.1 kv.2) kvs
/-- {k: v, ..} with keys ints and texts; the new dict stands empty while the pairs are made -/
def tDisp (trs : List (TE × TE)) : TE := fun σ H Q => ∀ p, H p = none → tPairs trs σ (upd H p (.dK [])) fun ps H2 => H2 p = some (.dK []) ∧ ∃ kvs : List (Key × V), ps = kvs.map (fun kv => (kV kv.1, kv.2)) ∧ kvs.length ≤ 15 ∧ Q (.ref p) (upd H2 p (.dK (mergeK [] kvs)))
/-! ### methods -/
/-- a is a dict, whatever its keys -/
def IsD (H : Hp) (a : Addr) : Prop := (∃ kvs, Rd H a (.dK kvs)) ∨ ∃ kvs, Rd H a (.dT kvs)
section
variable {X : Cx} {pins : List (Addr × Obj)} {σ : St} {H : Hp} {s : Shared} {a : Addr} {y d : V} {u r : Value} {o : Option V} {A : Around} {E : Value → Shared → Prop}
end

def tDGet1 (td ty : TE) : TE := fun σ H Q => td σ H fun x H1 => ∃ a, x = .ref a ∧ IsD H1 a ∧ ty σ H1 fun y H2 => ∃ o, DGet H2 a y o ∧ Q (o.getD .non) H2
def tDGet2 (td ty tx : TE) : TE := fun σ H Q => td σ H fun x H1 => ∃ a, x = .ref a ∧ IsD H1 a ∧ ty σ H1 fun y H2 => tx σ H2 fun z H3 => ∃ o, DGet H3 a y o ∧ Q (o.getD z) H3
section
variable {X : Cx} {o e f : Expr} {apos cpos : Pos} {td ty tx : TE}
end

/-! ### dict(d): a copy -/
section
variable {X : Cx} {pins : List (Addr × Obj)} {σ : St} {H : Hp} {s : Shared} {a : Addr} {kvs : List (Key × V)} {A : Around} {E : Value → Shared → Prop}
end


section
variable {X : Cx} {pins : List (Addr × Obj)} {σ : St} {H : Hp} {s : Shared} {a : Addr} {y : V} {u : Value} {A : Around} {E : Value → Shared → Prop}
end
end L2

namespace L2
open PySem PySem.Spec PyProof.Rows
section
variable {X : Cx}
end
/-! ### a dict's pairs: keys that differ -/
section
variable {κ : Type} [DecidableEq κ]
end
end L2


set_option Elab.async false
set_option maxRecDepth 100000
/-! A LIST COMPREHENSION with one clause, over the hand layer: its block is a context of its own, the list that grows is pinned. -/
namespace L2
open PySem PySem.Spec PyProof.Rows

/-! ### names of the block -/
def okOut (ns : List (Str × NameKind)) (y n : Str) : Bool := match ns.lookup y with
  | some .free => y == n
  | some .local => false
  | some .cell => false
  | _ => true
def okOuts (ns : List (Str × NameKind)) : List Str → List Str → Bool
  | [], [] => true
  | y :: ys, n :: ms => okOut ns y n && okOuts ns ys ms
  | _, _ => false
def okFree (ns : List (Str × NameKind)) (env : Env) : Bool := ns.all fun y => !(y.2 == .free) || (env.kindOf y.1 == some .cell || env.kindOf y.1 == some .free)
def okOwn (ns : List (Str × NameKind)) : Bool := ns.all fun y => !(y.2 == .cell) && (!(y.2 == .local) || ns.lookup y.1 == some .local)

theorem okOuts_get {ns : List (Str × NameKind)} : ∀ {N2 N : List Str} {i : Nat} {y : Str}, okOuts ns N2 N = true → N2[i]? = some y → okOut ns y y = true ∧ (ns.lookup y = some .free → N[i]? = some y)
  | [], [], _, _, _, e => by simp at e
  | y' :: ys, n :: ms, 0, y, h, e => by
    simp at e; subst e
    unfold okOuts at h
    rw [Bool.and_eq_true] at h
    refine ⟨?_, fun hf => ?_⟩
    · have h1 := h.1
      unfold okOut at h1 ⊢
      split at h1 <;> first | rfl | (exact absurd h1 Bool.false_ne_true) | (exact beq_self_eq_true _)
    · have h1 := h.1
      unfold okOut at h1
      rw [hf] at h1
      have e : y' = n := eq_of_beq h1
      simp [e]
  | y' :: ys, n :: ms, i + 1, y, h, e => by
    unfold okOuts at h
    rw [Bool.and_eq_true] at h
    obtain ⟨h1, h2⟩ := okOuts_get (i := i) (y := y) h.2 (by simpa using e)
    exact ⟨h1, fun hf => by simpa using h2 hf⟩
  | [], _ :: _, _, _, h, _ => by cases h
  | _ :: _, [], _, _, h, _ => by cases h

theorem okFree_has {ns : List (Str × NameKind)} {env : Env} (h : okFree ns env = true) {y : Str × NameKind} (hy : y ∈ ns) (hf : y.2 = .free) : env.kindOf y.1 = some .cell ∨ env.kindOf y.1 = some .free := by
  have q := List.all_eq_true.mp h y hy
  rw [hf] at q
  simpa using q
theorem okOwn_cell {ns : List (Str × NameKind)} (h : okOwn ns = true) : ∀ y ∈ ns, y.2 ≠ .cell := fun y hy e => by
  have q := List.all_eq_true.mp h y hy
  rw [e] at q
  simp at q
theorem okOwn_local {ns : List (Str × NameKind)} (h : okOwn ns = true) : ∀ y ∈ ns, y.2 = .local → ns.lookup y.1 = some .local := fun y hy e => by
  have q := List.all_eq_true.mp h y hy
  rw [e] at q
  simpa using q

theorem lookup_relabel {env : Env} {x : Str} : ∀ {ns : List (Str × NameKind)}, (ns.map fun (n, k) => if (k == NameKind.free && env.scope.kind == .function && env.kindOf n == some .cell) then (n, NameKind.cell) else (n, k)).lookup x =
    (ns.lookup x).map fun k => if (k == NameKind.free && env.scope.kind == .function && env.kindOf x == some .cell) then NameKind.cell else k
  | [] => rfl
  | (n, k) :: r => by
    have ih := @lookup_relabel env x r
    show List.lookup x ((if (k == NameKind.free && env.scope.kind == .function && env.kindOf n == some .cell) = true then (n, NameKind.cell) else (n, k)) :: _) = _
    cases hx : x == n with
    | true =>
      have e : x = n := eq_of_beq hx
      subst e
      simp only [List.lookup_cons, beq_self_eq_true]
      by_cases hc : (k == NameKind.free && env.scope.kind == .function && env.kindOf x == some .cell) = true
      · rw [if_pos hc]; simp only [List.lookup_cons, beq_self_eq_true, Option.map_some]; rw [if_pos hc]
      · rw [if_neg hc]; simp only [List.lookup_cons, beq_self_eq_true, Option.map_some]; rw [if_neg hc]
    | false =>
      simp only [List.lookup_cons, hx]
      by_cases hc : (k == NameKind.free && env.scope.kind == .function && env.kindOf n == some .cell) = true
      · rw [if_pos hc]; simp only [List.lookup_cons, hx]; exact ih
      · rw [if_neg hc]; simp only [List.lookup_cons, hx]; exact ih

/-! ### the closure -/
theorem closure_of {scope : Scope} {env : Env} (h : ∀ y ∈ scope.names, y.2 = .free → ∃ c, env.cells.lookup y.1 = some c) :
    ∃ cl, closureFor scope env = pure cl ∧ (∀ x c, cl.lookup x = some c → env.cells.lookup x = some c) ∧ (∀ y ∈ scope.names, y.2 = .free → ∃ c, cl.lookup y.1 = some c) := by
  have all : ∀ (ns : List (Str × NameKind)) (cs : List (Str × Addr)), (∀ y ∈ ns, y.2 = .free → ∃ c, env.cells.lookup y.1 = some c) → (∀ x c, cs.lookup x = some c → env.cells.lookup x = some c) →
      ∃ cl, (forIn ns cs fun x r => (if (x.2 == NameKind.free) = true then do let a ← cellOf env x.1; pure (ForInStep.yield ((x.1, a) :: r)) else pure (ForInStep.yield r) : Sem (ForInStep (List (Str × Addr))))) = pure cl ∧
        (∀ x c, cl.lookup x = some c → env.cells.lookup x = some c) ∧ (∀ x, (cs.lookup x).isSome = true → (cl.lookup x).isSome = true) ∧ (∀ y ∈ ns, y.2 = .free → ∃ c, cl.lookup y.1 = some c) := by
    intro ns
    induction ns with
    | nil => intro cs _ hc; exact ⟨cs, rfl, hc, fun _ z => z, fun _ z => nomatch z⟩
    | cons y r ih =>
      intro cs hh hc
      have hr : ∀ z ∈ r, z.2 = .free → ∃ c, env.cells.lookup z.1 = some c := fun z hz => hh z (List.mem_cons_of_mem _ hz)
      by_cases hf : y.2 = .free
      · obtain ⟨c, ec⟩ := hh y List.mem_cons_self hf
        have hc' : ∀ x d, ((y.1, c) :: cs).lookup x = some d → env.cells.lookup x = some d := fun x d e => by
          rw [List.lookup_cons] at e
          cases hx : x == y.1 with
          | true =>
            rw [hx] at e
            have e2 : x = y.1 := eq_of_beq hx
            cases e
            rw [e2]; exact ec
          | false =>
            rw [hx] at e
            exact hc x d e
        obtain ⟨cl, e1, e2, e3, e4⟩ := ih ((y.1, c) :: cs) hr hc'
        refine ⟨cl, ?_, e2, fun x hx => e3 x ?_, fun z hz hzf => ?_⟩
        · rw [List.forIn_cons]
          have ek : (y.2 == NameKind.free) = true := by rw [hf]; rfl
          simp only [ek, if_true, cellOf, ec, pure_bind]
          exact e1
        · rw [List.lookup_cons]; split <;> first | rfl | exact hx
        · rcases List.mem_cons.mp hz with rfl | hz
          · have := e3 z.1 (by rw [List.lookup_cons, beq_self_eq_true]; rfl)
            exact Option.isSome_iff_exists.mp this
          · exact e4 z hz hzf
      · obtain ⟨cl, e1, e2, e3, e4⟩ := ih cs hr hc
        refine ⟨cl, ?_, e2, e3, fun z hz hzf => ?_⟩
        · rw [List.forIn_cons]
          have ek : (y.2 == NameKind.free) = false := by simpa using hf
          simp only [ek, Bool.false_eq_true, if_false, pure_bind]
          exact e1
        · rcases List.mem_cons.mp hz with rfl | hz
          · exact absurd hzf hf
          · exact e4 z hz hzf
  obtain ⟨cl, e1, e2, _, e4⟩ := all scope.names [] h (fun _ _ z => by cases z)
  refine ⟨cl, ?_, e2, e4⟩
  unfold closureFor
  first
    | (rw [show (forIn scope.names ([] : List (Str × Addr)) _ : Sem (List (Str × Addr))) = pure cl from e1]; rfl)
    | (simp only [bind_pure]; exact e1)
    | (show (forIn scope.names [] _ >>= _) = _; exact (congrArg (fun t => t >>= fun cs => pure cs) e1))

/-! ### the block's context -/
/-- what of it is known only when it runs -/
structure Dyn where
  cl : List (Str × Addr)
  C : Addr
  s₀ : Shared
  H₀ : Hp
  fp : List Addr
abbrev compCx (X : Cx) (scope : Scope) (N' : List Str) (d : Dyn) : Cx where
  prog := X.prog
  w := X.w
  K := X.K
  mg := X.mg
  base := X.base
  A := X.A
  N := N'
  s₀ := d.s₀
  H₀ := d.H₀
  env := compEnvC scope d.cl d.C X.env
  outer := X.stack
  stack := X.stack
  ex := d.fp
  fn := fun _ => false
  calm := true
  pn := []
  xe := fun _ _ => False

/-- a turn of the loop, the step ahead of the store kept -/
theorem compLoop_go {prog : Program} {w : World} {A : Around} {R : Result → Shared → Prop} {s : Shared} {elt target iter : Expr} {ifs : List Expr} {scope : Scope} {pos : Pos} {it acc : Value} {env : Env} (I : Nat → Shared → Prop)
    (turn : ∀ n s, I n s → wpAny (model prog w) A (pyNext it) (fun r s₁ => match r with
      | none => R (.ok .next) s₁
      | some v => wpAny (model prog w) A (letOwnedTupleGo target it v) (fun _ s₁' => wpAny (model prog w) A (assign target env v) (fun _ s₂ =>
          wpAny (model prog w) A (forIn ifs true fun c r => if r = true then do let ok ← isTrue c env (eval c env); pure (ForInStep.yield ok) else pure (ForInStep.yield r)) (fun ok s₃ =>
            if ok = true then wpAny (model prog w) A (eval elt env) (fun x s₄ =>
              wpAny (model prog w) A (call (.builtin "list.append") [acc, x]) (fun _ s₅ => ∃ m, m < n ∧ I m s₅) (fun _ _ => False) s₄) (fun _ _ => False) s₃
            else ∃ m, m < n ∧ I m s₃) (fun _ _ => False) s₂) (fun _ _ => False) s₁') (fun _ _ => False) s₁) (fun _ _ => False) s)
    (n : Nat) (h : I n s) :
    codeAny (model prog w) A (.compLoop (.ListComp elt [⟨target, iter, ifs, 0⟩] scope pos) 0 it acc env) R s := by
  refine codeAny_loop rfl I (fun n s hI => ?_) n h
  show wpAny _ A ((compTurn (.ListComp elt [⟨target, iter, ifs, 0⟩] scope pos) 0 it acc env).onRaise (fun x => do noteFrame x env; theTreesLotGoes x)) _ _ s
  refine wpAny_noted ?_
  rw [compTurn_list]
  refine wpAny_bind (wpAny_standAt (wpAny_bind (wpAny_mono (turn n s hI) (fun r s₁ h₁ => ?_) fun _ _ f => f.elim)))
  cases r with
  | none => exact wpAny_pure h₁
  | some v =>
    refine wpAny_bind (wpAny_mono h₁ (fun _ s₁' h₁' => ?_) fun _ _ f => f.elim)
    refine wpAny_bind (wpAny_mono h₁' (fun _ s₂ h₂ => wpAny_bind (wpAny_mono h₂ (fun ok s₃ h₃ => ?_) fun _ _ f => f.elim)) fun _ _ f => f.elim)
    cases ok with
    | false => exact wpAny_pure ⟨rfl, h₃⟩
    | true =>
      exact wpAny_bind (wpAny_bind (wpAny_mono h₃ (fun x s₄ h₄ => wpAny_bind (wpAny_mono h₄ (fun _ s₅ h₅ => wpAny_pure (wpAny_pure ⟨rfl, h₅⟩)) fun _ _ f => f.elim)) fun _ _ f => f.elim))

/-! ### tests -/
def PTs (X : Cx) (ifs : List Expr) (t : TT) : Prop :=
  ∀ (pins : List (Addr × Obj)) (s : Shared) (σ : St) (H : Hp) (Q : Bool → Hp → Prop), Inv X pins σ H s → t σ H Q →
    wpAny (model X.prog X.w) X.A (forIn ifs true fun c r => if r = true then do let ok ← isTrue c X.env (eval c X.env); pure (ForInStep.yield ok) else pure (ForInStep.yield r)) (TP X pins σ Q) X.xe s
def tAll : TT := fun _ H Q => Q true H
theorem pts_nil {X : Cx} : PTs X [] tAll := fun _ _ _ H _ I h => wpAny_tests_nil ⟨H, I, h⟩
/-- the walk of a comprehension, by a word W of the turn, a measure, what stands in the list, the heap -/
def CompW (J : It) (σ : St) (k : Nat) (g : TG) (tt : TT) (te : TE) (H1 : Hp) (Fin : List V → Hp → Prop) : Prop :=
  ∃ W : Nat → Nat → List V → Hp → Prop, (∃ m, W 0 m [] H1) ∧ ∀ i m ys H, W i m ys H → ys.length ≤ sizeLine ∧
    ((J.stop i H ∧ Fin ys H) ∨ (J.go i H ∧ ∃ N : List V → Hp → Prop, (∀ ys' H', N ys' H' → ∃ m', m' < m ∧ W (i + 1) m' ys' H') ∧ ∀ x H', J.yld i H x H' → g x (List.replicate k none ++ σ) H' fun σ2 H2 => σ2.drop k = σ ∧
      tt σ2 H2 fun b H3 => if b = true then te σ2 H3 fun v H4 => N (ys ++ [v]) H4 else N ys H3))

abbrev lobj (its : List Value) : Obj := { cls := .type "list", data := .seq its.toArray its.length }

section
variable {X : Cx} {pins : List (Addr × Obj)} {σ : St} {H2 : Hp} {s₂ : Shared} {scope : Scope} {ts N2 : List Str} {cl : List (Str × Addr)} {C D : Addr} {fp : List Addr}

/-- the block's context is a good one -/
theorem comp_ok (I2 : Inv X pins σ H2 s₂) (hc : X.calm = true) (f2 : ∀ b ∈ fp, FpOk X pins H2 b ∧ b < s₂.heap.objs.size) (hkind : scope.kind = .function) (hown : okOwn scope.names = true) (hfree : okFree scope.names X.env = true)
    (hcl1 : ∀ x c, cl.lookup x = some c → X.env.cells.lookup x = some c) (hcl2 : ∀ y ∈ scope.names, y.2 = .free → ∃ c, cl.lookup y.1 = some c) (hC : s₂.heap.objs.size ≤ C) :
    (compCx X scope (ts ++ N2) ⟨cl, C, s₂, H2, fp⟩).Ok := by
  refine ⟨I2.ok.mod, hkind, I2.ok.glob, I2.ok.blt, hC, fun x y c e1 e2 => I2.ok.inj x y c (hcl1 _ _ e1) (hcl1 _ _ e2), fun x hx => ?_, fun x c z _ => absurd (show false = true from z) Bool.false_ne_true, fun _ => I2.ok.hd hc, I2.ok.frames, .inl rfl, fun b hb => ?_, I2.bs, Nat.le_trans I2.ok.bsz I2.sz, fun b o e hb => ?_, fun b hb hfs => ?_, I2.stack, I2.stkFree⟩
  · have hx' : (relabel scope X.env).names.lookup x = some .cell ∨ (relabel scope X.env).names.lookup x = some .free := hx
    have e0 : (relabel scope X.env).names.lookup x = _ := lookup_relabel (env := X.env) (x := x) (ns := scope.names)
    rw [e0] at hx'
    cases q : scope.names.lookup x with
    | none => rw [q] at hx'; simp at hx'
    | some k =>
      rw [q] at hx'
      simp only [Option.map_some, Option.some.injEq] at hx'
      have hm : (x, k) ∈ scope.names := PySem.mem_of_lookup q
      have hk : k = .free := by
        have nc := okOwn_cell hown _ hm
        split at hx'
        · rename_i hcond
          simp only [Bool.and_eq_true] at hcond
          exact eq_of_beq hcond.1.1
        · rcases hx' with z | z
          · exact absurd z nc
          · exact z
      exact hcl2 _ hm hk
  · obtain ⟨⟨f0, f1, f3, f4, f5, f6⟩, hlt⟩ := f2 b hb
    exact ⟨Nat.ne_of_lt (Nat.lt_of_lt_of_le hlt hC), fun x c e => f5 x c (hcl1 x c e)⟩
  · obtain ⟨⟨f0, f1, f3, f4, f5, f6⟩, hlt⟩ := f2 b hb
    rcases f4 with z | z
    · exact I2.ok.noex b o e z
    · exact absurd (Nat.lt_of_lt_of_le (Heap.lt_size e) (Nat.le_trans I2.ok.bsz z)) (Nat.lt_irrefl _)
  · obtain ⟨⟨f0, f1, f3, f4, f5, f6⟩, hlt⟩ := f2 b hb
    rcases List.mem_cons.mp (I2.stkSub b hfs) with z | z
    · exact f1 z
    · exact f3 z

/-- the entry -/
theorem comp_start (I2 : Inv X pins σ H2 s₂) (hc : X.calm = true) (f2 : ∀ b ∈ fp, FpOk X pins H2 b ∧ b < s₂.heap.objs.size) (hkind : scope.kind = .function) (hown : okOwn scope.names = true) (hfree : okFree scope.names X.env = true) (hout : okOuts scope.names N2 X.N = true)
    (hcl1 : ∀ x c, cl.lookup x = some c → X.env.cells.lookup x = some c) (hcl2 : ∀ y ∈ scope.names, y.2 = .free → ∃ c, cl.lookup y.1 = some c) (hC : s₂.heap.objs.size ≤ C) (hDC : D ≠ C) (hD : s₂.heap.objs.size ≤ D)
    {h₁ : Heap} {tk : Nat} {m : Str → Option Value} (hn : h₁.Ns C m) (old : ∀ b o, s₂.heap.get? b = some o → h₁.get? b = some o) (hacc : h₁.get? D = some (lobj [])) :
    Inv (compCx X scope (ts ++ N2) ⟨cl, C, s₂, H2, fp⟩) [(D, lobj [])] (List.replicate ts.length none ++ σ) H2 { s₂ with heap := h₁, toks := tk } := by
  have ok := comp_ok (ts := ts) (N2 := N2) I2 hc f2 hkind hown hfree hcl1 hcl2 hC
  have hlN : ∀ {a b : List Str}, okOuts scope.names a b = true → a.length = b.length := by
    intro a
    induction a with
    | nil => intro b h; cases b with | nil => rfl | cons _ _ => cases h
    | cons y ys ih =>
      intro b h
      cases b with
      | nil => cases h
      | cons n ms =>
        unfold okOuts at h
        rw [Bool.and_eq_true] at h
        rw [List.length_cons, List.length_cons, ih h.2]
  refine ⟨ok, rfl, I2.bare, Un.kept old, ⟨m, hn, fun i x v e1 e2 e3 => ?_⟩, fun x c e => ?_, ?_, fun x c e => I2.freeC x c (hcl1 x c e), fun p hp => ?_, I2.hok.kept old, ?_⟩
  · by_cases hi : i < ts.length
    · rw [List.getElem?_append_left (by simpa using hi), List.getElem?_replicate] at e2
      split at e2 <;> cases e2
    · have hi' : ts.length ≤ i := Nat.not_lt.mp hi
      rw [List.getElem?_append_right (by simpa using hi')] at e2
      rw [List.length_replicate] at e2
      have e1' : (ts ++ N2)[i]? = some x := e1
      rw [List.getElem?_append_right hi'] at e1'
      obtain ⟨k1, k2⟩ := okOuts_get hout e1'
      have e0 : (relabel scope X.env).names.lookup x = _ := lookup_relabel (env := X.env) (x := x) (ns := scope.names)
      have e3' : (relabel scope X.env).names.lookup x = some .local ∨ (relabel scope X.env).names.lookup x = some .cell ∨ (relabel scope X.env).names.lookup x = some .free := e3
      rw [e0] at e3'
      cases q : scope.names.lookup x with
      | none => rw [q] at e3'; simp at e3'
      | some k =>
        have hm : (x, k) ∈ scope.names := PySem.mem_of_lookup q
        have hk : k = .free := by
          unfold okOut at k1
          rw [q] at k1 e3'
          cases k with
          | free => rfl
          | «local» => cases k1
          | cell => cases k1
          | _ => exfalso; revert e3'; simp
        subst hk
        obtain ⟨mo, hmo, hl⟩ := I2.loc
        have hkv := okFree_has hfree hm rfl
        have vis : Vis X.env.scope x := hkv.elim (fun z => .inr (.inl z)) fun z => .inr (.inr z)
        obtain ⟨u, r, l⟩ := hl _ x v (k2 q) e2 vis
        refine ⟨u, r, .inr ⟨?_, ?_⟩⟩
        · show (relabel scope X.env).names.lookup x = some .cell ∨ (relabel scope X.env).names.lookup x = some .free
          rw [e0, q]
          simp only [Option.map_some, Option.some.injEq]
          split
          · exact .inl rfl
          · exact .inr rfl
        · rcases l with ⟨kl, _⟩ | ⟨_, c, ec, z⟩
          · exfalso
            rcases hkv with z | z <;> (rw [kl] at z; cases z)
          · obtain ⟨c', ec'⟩ := hcl2 _ hm rfl
            have := hcl1 _ _ ec'
            rw [ec] at this
            cases this
            obtain ⟨o, ho, hd⟩ := z
            exact ⟨c, ec', o, old _ _ ho, hd⟩
  · obtain ⟨v, o, ho, hd⟩ := I2.cell x c (hcl1 x c e)
    exact ⟨v, o, old _ _ ho, hd⟩
  · exact I2.hok.fresh hC
  · have e : p = (D, lobj []) := by simpa using hp
    subst e
    refine ⟨hacc, I2.hok.fresh hD, hDC, fun z => ?_, fun v z => by cases z⟩
    rcases List.mem_cons.mp (I2.stkSub D z) with z | z
    · exact absurd (Nat.lt_of_lt_of_le I2.lt (by rw [← z]; exact hD)) (Nat.lt_irrefl _)
    · exact I2.nofs hD z
  · show (List.replicate ts.length none ++ σ).length = (ts ++ N2).length
    rw [List.length_append, List.length_append, List.length_replicate, I2.len, hlN hout]

/-- the end: the list is tracked, the block's context goes -/
theorem comp_end (I2 : Inv X pins σ H2 s₂) (f2 : ∀ b ∈ fp, FpOk X pins H2 b) (hD : s₂.heap.objs.size ≤ D) {σ' : St} {H' : Hp} {s' : Shared} {its : List Value} {ys : List V} {pl : List (Addr × Obj)}
    (J : Inv (compCx X scope (ts ++ N2) ⟨cl, C, s₂, H2, fp⟩) pl σ' H' s') (hp : s'.heap.get? D = some (lobj its)) (hn : H' D = none) (hv : Vals ys its) (hz : ys.length ≤ sizeLine) : Inv X pins σ (upd H' D (.lst ys)) s' := by
  have neD : ∀ b o, s₂.heap.get? b = some o → b ≠ D := fun b o e => Nat.ne_of_lt (Nat.lt_of_lt_of_le (Heap.lt_size e) hD)
  have neH : ∀ b o, H2 b = some o → b ≠ D := fun b o e => Nat.ne_of_lt (Nat.lt_of_lt_of_le (I2.hok.lt e) hD)
  have u := J.base
  have un : Un (frs X.stack) fp H2 (upd H' D (.lst ys)) s₂.heap s'.heap :=
    ⟨u.keep, u.slot, fun b o e n hx => by rw [upd_ne (neD b o e)]; exact u.free b o e n hx, u.there, fun b xs e => by rw [upd_ne (neH b _ e)]; exact u.tups b xs e, fun b o v e => by rw [upd_ne (neH b _ e)]; exact u.frzs b o v e,
      fun b ps e => by rw [upd_ne (neH b _ e)]; exact u.tbls b ps e⟩
  have hok : HOk X.prog X.w (upd H' D (.lst ys)) s'.heap := fun b o e => by
    by_cases hb : b = D
    · subst hb
      rw [upd_same] at e
      cases e
      exact ⟨hz, its, its.length, hv, hp⟩
    · rw [upd_ne hb] at e
      exact (J.hok b o e).stay (fun c v _ q => q) (fun c q => by rw [upd_ne (ne_of_none q hn)]; exact q) fun c xs q => by rw [upd_ne (ne_of_none q hn)]; exact q
  exact I2.call' (ch := fp) J.os un hok J.bare fun b hb => by
    obtain ⟨f0, f1, f3, f4, f5, f6⟩ := f2 b hb
    exact ⟨f4, f1, f5, f6⟩

/-- the whole block -/
theorem comp_block {E : Value → Shared → Prop} {tg elt iter : Expr} {ifs : List Expr} {pos : Pos} {it : Addr} {tn : Nat → Heap → Prop} {J : It} {g : Dyn → TG} {tt : Dyn → TT} {te : Dyn → TE} {RR : Value → Addr → Result → Shared → Prop} {Fin : List V → Hp → Prop}
    (I2 : Inv X pins σ H2 s₂) (hc : X.calm = true) (T : Turn X.prog X.w X.K tg J fp it tn) (st : tn 0 s₂.heap) (f2 : ∀ b ∈ fp, FpOk X pins H2 b) (hkind : scope.kind = .function) (hown : okOwn scope.names = true) (hfree : okFree scope.names X.env = true) (hout : okOuts scope.names N2 X.N = true)
    (hcl1 : ∀ x c, cl.lookup x = some c → X.env.cells.lookup x = some c) (hcl2 : ∀ y ∈ scope.names, y.2 = .free → ∃ c, cl.lookup y.1 = some c)
    (hg : ∀ d, PG (compCx X scope (ts ++ N2) d) tg (g d)) (ht : ∀ d, PTs (compCx X scope (ts ++ N2) d) ifs (tt d)) (he : ∀ d, PE (compCx X scope (ts ++ N2) d) elt (te d))
    (hW : ∀ d, CompW J σ ts.length (g d) (tt d) (te d) H2 Fin)
    (hRR : ∀ D C s' H' ys, s₂.heap.objs.size ≤ C → C ≠ D → Inv X pins σ (upd H' D (.lst ys)) s' → H' D = none → H' C = none → (∃ m, s'.heap.Ns C m) → ys.length ≤ sizeLine → Fin ys H' → RR (.ref D) C (.ok .next) s') :
    wpAny (model X.prog X.w) X.A (newList []) (fun acc s₃ => wpAny (model X.prog X.w) X.A (newFunctionEnv scope X.env.globals cl [] X.env.qual none .none (some X.env)) (fun cenv s₄ =>
      codeAny (model X.prog X.w) X.A (.compStart (.ListComp elt [⟨tg, iter, ifs, 0⟩] scope pos) 0 (.ref it) acc { cenv with scope := relabel scope X.env }) (RR acc cenv.locals) s₄) E s₃) E s₂ := by
  refine wpAny_newObj_type (wpAny_newFunctionEnv (okOwn_cell hown) (by intro y hy; simp at hy) (fun h₁ hns₁ hsb₁ => ?_) hkind)
  dsimp only at hns₁ hsb₁ ⊢
  generalize hH2 : s₂.heap.push { cls := .type "list", dict := none, data := .seq ([] : List Value).toArray } = HP at hns₁ hsb₁ ⊢
  have hC : HP.objs.size = s₂.heap.objs.size + 1 := by rw [← hH2, Heap.size_push]
  have hDC : s₂.heap.objs.size ≠ HP.objs.size := by rw [hC]; exact Nat.ne_of_lt (Nat.lt_succ_self _)
  have hCle : s₂.heap.objs.size ≤ HP.objs.size := by rw [hC]; exact Nat.le_succ _
  have below : ∀ b, b < s₂.heap.objs.size → b ≠ HP.objs.size ∧ b ≠ s₂.heap.objs.size := fun b hb => ⟨by rw [hC]; exact Nat.ne_of_lt (Nat.lt_succ_of_lt hb), Nat.ne_of_lt hb⟩
  have old : ∀ b o, s₂.heap.get? b = some o → h₁.get? b = some o := fun b o e => hsb₁.extBut b o (below b (Heap.lt_size e)).1 (Heap.get?_push_of_some _ (hH2 ▸ Heap.get?_push_of_some _ e))
  have hacc : h₁.get? s₂.heap.objs.size = some (lobj []) := hsb₁.extBut _ _ hDC (Heap.get?_push_of_some _ (hH2 ▸ Heap.get?_push_size _ rfl))
  have flt : ∀ b ∈ fp, b < s₂.heap.objs.size := fun b hb => by
    obtain ⟨o, e, _⟩ := T.obj _ _ st b hb
    exact Heap.lt_size e
  generalize hDD : s₂.heap.objs.size = D at *
  generalize hCC : HP.objs.size = C at *
  have hDle : s₂.heap.objs.size ≤ D := Nat.le_of_eq hDD
  have I4 := fun (tk : Nat) => comp_start (ts := ts) (D := D) (C := C) (tk := tk) I2 hc (fun b hb => ⟨f2 b hb, by rw [hDD]; exact flt b hb⟩) hkind hown hfree hout hcl1 hcl2 (by rw [hDD]; exact hCle) hDC hDle hns₁ old hacc
  generalize hd : (⟨cl, C, s₂, H2, fp⟩ : Dyn) = d at *
  obtain ⟨W, ⟨m0, w0⟩, turn⟩ := hW d
  have Xs : ∀ {pl : List (Addr × Obj)} {H' : Hp}, (∀ b ∈ fp, H' b = none) → (∀ p ∈ pl, p.1 = D) → ∀ b ∈ fp, FpOk (compCx X scope (ts ++ N2) d) pl H' b := fun {pl H'} hn hp b hb => by
    subst hd
    obtain ⟨f0, f1, f3, f4, f5, f6⟩ := f2 b hb
    refine ⟨hn b hb, (below b (flt b hb)).1, fun z => ?_, .inl hb, fun x c e => f5 x c (hcl1 x c e), fun p hp' => ?_⟩
    · rcases List.mem_cons.mp (I2.stkSub b z) with z | z
      · exact f1 z
      · exact f3 z
    · rw [hp p (by simpa using hp')]
      exact Ne.symm (below b (flt b hb)).2
  have loop : ∀ s₃ : Shared, s₃ = { s₂ with heap := h₁, toks := s₂.toks + ([] : List (Str × Value)).length } →
      codeAny (model X.prog X.w) X.A (.compLoop (.ListComp elt [⟨tg, iter, ifs, 0⟩] scope pos) 0 (.ref it) (.ref D) (compEnvC scope cl C X.env)) (RR (.ref D) C) s₃ := by
    rintro s₃ rfl
    refine compLoop_go (fun n s' => ∃ i ys H' its, Inv (compCx X scope (ts ++ N2) d) [(D, lobj its)] (List.replicate ts.length none ++ σ) H' s' ∧ tn i s'.heap ∧ (∀ b ∈ fp, H' b = none) ∧ Vals ys its ∧ W i n ys H') ?_ m0
      ⟨0, [], H2, [], I4 _, T.keep _ _ _ st fun b _ o e => old b o e, fun b hb => (f2 b hb).1, .nil, w0⟩
    rintro n s3 ⟨i, ys, H3, its, I3, st3, fr3, hv3, w3⟩
    obtain ⟨hlen, tr⟩ := turn i n ys H3 w3
    have one : ∀ p ∈ [(D, lobj its)], p.1 = D := fun p hp => by
      have e : p = (D, lobj its) := by simpa using hp
      rw [e]
    have eenv : (compCx X scope (ts ++ N2) d).env = compEnvC scope cl C X.env := by subst hd; rfl
    rcases tr with ⟨stop, fin⟩ | ⟨go, N, hN, step⟩
    · refine thn (T.done (compCx X scope (ts ++ N2) d) rfl rfl rfl rfl i _ s3 _ H3 (fun _ _ => False) I3 (Xs fr3 one) st3 stop) fun r s4 ⟨hr, J4⟩ => ?_
      subst hr
      show RR (.ref D) C (.ok .next) s4
      obtain ⟨pe, pn, _⟩ := J4.pin (D, lobj its) (by simp)
      have fC : H3 C = none := by have := J4.free; rw [eenv] at this; exact this
      have nC : ∃ m, s4.heap.Ns C m := by
        obtain ⟨m, z, _⟩ := J4.loc
        rw [eenv] at z
        exact ⟨m, z⟩
      subst hd
      exact hRR D C s4 H3 ys hCle (Ne.symm hDC) (comp_end I2 f2 hDle J4 pe pn hv3 hlen) pn fC nC hlen fin
    · refine thn (T.item (compCx X scope (ts ++ N2) d) rfl rfl rfl rfl i _ s3 _ H3 (fun _ _ => False) I3 (Xs fr3 one) st3 go) fun r s4 ⟨u, hr, h4⟩ => ?_
      subst hr
      refine thn h4 fun _ s5 ⟨x, H5, I5, r5, y5, st5, fr5⟩ => ?_
      have I5' := I5.pinned (Xs fr5 one) (T.obj _ _ st5)
      rw [← eenv]
      refine thn (hg d _ s5 _ H5 x u _ I5' r5 (step x H5 y5)) fun _ s6 ⟨σ6, H6, I6, hdrop, q6⟩ => ?_
      have back : ∀ {ys' : List V} {its' : List Value} {H' : Hp} {s' : Shared} {pl : List (Addr × Obj)}, Inv (compCx X scope (ts ++ N2) d) ([(D, lobj its')] ++ pl) σ6 H' s' → Inv (compCx X scope (ts ++ N2) d) [(D, lobj its')] (List.replicate ts.length none ++ σ) H' s' := fun {ys' its' H' s' pl} I' => by
        have hl : σ6.length = (ts ++ N2).length := I'.len
        refine (I'.pins_of (pins' := [(D, lobj its')]) fun p hp => I'.pin p (List.mem_append_right _ (List.mem_append_left _ hp))).weak ?_ ?_
        · rw [hl]; exact I3.len
        · intro j v e
          by_cases hj : j < ts.length
          · rw [List.getElem?_append_left (by simpa using hj), List.getElem?_replicate] at e
            split at e <;> cases e
          · have hj' : ts.length ≤ j := Nat.not_lt.mp hj
            rw [List.getElem?_append_right (by simpa using hj'), List.length_replicate, ← hdrop, List.getElem?_drop] at e
            rw [show ts.length + (j - ts.length) = j by omega] at e
            exact e
      refine thn (ht d _ s6 σ6 H6 _ I6 q6) fun b s7 ⟨H7, I7, q7⟩ => ?_
      have pinsOf : ∀ {its' : List Value} {H' : Hp} {s' : Shared}, Inv (compCx X scope (ts ++ N2) d) ([(D, lobj its')] ++ pinsAt fp s5.heap) σ6 H' s' → (∀ b ∈ fp, ∀ o, s5.heap.get? b = some o → s'.heap.get? b = some o) ∧ ∀ b ∈ fp, H' b = none := fun {its' H' s'} I' => by
        refine ⟨fun b hb o e => (I'.pin (b, o) (List.mem_append_right _ (List.mem_append_right _ (mem_pinsAt hb e)))).1, fun b hb => ?_⟩
        obtain ⟨o, e, _⟩ := T.obj _ _ st5 b hb
        exact (I'.pin (b, o) (List.mem_append_right _ (List.mem_append_right _ (mem_pinsAt hb e)))).2.1
      cases b with
      | false =>
        have q7' : N ys H7 := by simpa using q7
        obtain ⟨m', hm, w7⟩ := hN _ _ q7'
        obtain ⟨k1, k2⟩ := pinsOf I7
        show ∃ m, m < n ∧ _
        exact ⟨m', hm, i + 1, ys, H7, its, back (ys' := ys) I7, T.keep _ _ _ st5 k1, k2, hv3, w7⟩
      | true =>
        have q7' : te d σ6 H7 fun v H4 => N (ys ++ [v]) H4 := by simpa using q7
        show wpAny _ _ _ _ _ _
        refine thn (he d _ s7 σ6 H7 _ I7 q7') fun y s8 ⟨v, H8, I8, r8, n8⟩ => ?_
        obtain ⟨m', hm, w8⟩ := hN _ _ n8
        obtain ⟨k1, k2⟩ := pinsOf I8
        obtain ⟨pe, pn, pC, pf, pd⟩ := I8.pin (D, lobj its) (by simp)
        have hsz : its.toArray.size ≤ sizeLine := by rw [List.size_toArray, ← hv3.length]; exact hlen
        refine append_at (hsz := hsz) pe fun h9 sb9 e9 => ?_
        have J8 : Inv (compCx X scope (ts ++ N2) d) [] σ6 H8 s8 := I8.pins_of fun p hp => nomatch hp
        have hDs : (compCx X scope (ts ++ N2) d).s₀.heap.objs.size ≤ D := by subst hd; exact hDle
        have J9 : Inv (compCx X scope (ts ++ N2) d) [] σ6 H8 { s8 with heap := h9 } := J8.turned (t' := s8.toks) (it := D) (fun b o hb e => sb9.extBut b o hb e) pn pC (.inr hDs)
          (fun x c e => by
            obtain ⟨v', z⟩ := I3.cell x c e
            subst hd
            obtain ⟨v2, z2⟩ := I2.cell x c (hcl1 x c e)
            exact Nat.ne_of_lt (Nat.lt_of_lt_of_le z2.lt hDle)) (fun p hp => nomatch hp)
        have e9' : h9.get? D = some (lobj (its ++ [y])) := by
          rw [e9]
          show some ({ cls := .type "list", data := .seq (its.toArray.push y) (its.length + 1) } : Obj) = some { cls := .type "list", data := .seq (its ++ [y]).toArray (its ++ [y]).length }
          rw [List.length_append, List.length_singleton, List.push_toArray]
        have J9' : Inv (compCx X scope (ts ++ N2) d) ([(D, lobj (its ++ [y]))] ++ []) σ6 H8 { s8 with heap := h9 } := J9.pins_of fun p hp => by
          have e : p = (D, lobj (its ++ [y])) := by simpa using hp
          subst e
          exact ⟨e9', pn, pC, pf, fun v z => by cases z⟩
        refine ⟨m', hm, i + 1, ys ++ [v], H8, its ++ [y], back (ys' := ys) J9', ?_, k2, hv3.append (.cons r8 .nil), w8⟩
        exact T.keep _ _ _ st5 fun b hb o e => sb9.extBut b o (below b (flt b hb)).2 (k1 b hb o e)
  exact codeAny_compStart_list (loop _ rfl) (T.self _ 0 _ _ _ (T.keep _ _ _ st fun b _ o e => old b o e) (loop _ rfl))
end

/-! ### the two rules -/
def tComp (k : Nat) (wi : TI) (g : Dyn → TG) (tt : Dyn → TT) (te : Dyn → TE) : TE := fun σ H Q => wi σ H fun J H1 => ∀ d : Dyn, CompW J σ k (g d) (tt d) (te d) H1 fun ys H' => ∀ l, H' l = none → Q (.ref l) (upd H' l (.lst ys))

theorem pe_comp {X : Cx} {tg elt iter : Expr} {ifs : List Expr} {scope : Scope} {pos : Pos} (ts N2 : List Str) {wi : TI} {g : Dyn → TG} {tt : Dyn → TT} {te : Dyn → TE} (hc : X.calm = true) (hi : PI X tg iter wi)
    (hg : ∀ d, PG (compCx X scope (ts ++ N2) d) tg (g d)) (ht : ∀ d, PTs (compCx X scope (ts ++ N2) d) ifs (tt d)) (he : ∀ d, PE (compCx X scope (ts ++ N2) d) elt (te d))
    (hkind : scope.kind = .function) (hown : okOwn scope.names = true) (hfree : okFree scope.names X.env = true) (hout : okOuts scope.names N2 X.N = true)
    (hs : ∀ x, foldedSetIterable iter X.env x = pure x := by intro _; rfl) : PE X (.ListComp elt [⟨tg, iter, ifs, 0⟩] scope pos) (tComp ts.length wi g tt te) := by
  intro pins s σ H Q I h
  obtain ⟨cl, hclos, hcl1, hcl2⟩ := closure_of (scope := scope) (env := X.env) fun y hy hf => I.ok.has y.1 (okFree_has hfree hy hf)
  rw [eval_ListComp]
  refine wpAny_comprehension_free (use := none) rfl hs hclos hkind (okOwn_local hown) (thn (hi pins s σ H _ I h) fun v s1 h1 => thn h1 fun itv s2 h2 => ?_)
  obtain ⟨it, fp, tn, J, H2, e, I2, T, st2, f2, hW⟩ := h2
  subst e
  refine comp_block (RR := fun acc C => compPost (model X.prog X.w) X.A X.xe none (EP X pins σ Q) acc C) I2 hc T st2 f2 hkind hown hfree hout hcl1 hcl2 hg ht he hW ?_
  intro D C s' H' ys hC hCD I' hD hCn hNs hl fin
  obtain ⟨m, hm⟩ := hNs
  refine ⟨m, hm, fun h' sb => ?_⟩
  have I'' : Inv X pins σ (upd H' D (.lst ys)) { s' with heap := h' } := by
    refine I'.turned (t' := s'.toks) (it := C) (fun b o hb e => sb.extBut b o hb e) (by rw [upd_ne hCD]; exact hCn) (Nat.ne_of_gt (Nat.lt_of_lt_of_le I2.lt hC)) (.inr (Nat.le_trans I2.sz hC)) (fun x c e => ?_) fun p hp => ?_
    · obtain ⟨v, q⟩ := I2.cell x c e
      exact Nat.ne_of_lt (Nat.lt_of_lt_of_le q.lt hC)
    · exact Nat.ne_of_lt (Nat.lt_of_lt_of_le (Heap.lt_size (I2.pin p hp).1) hC)
  exact ⟨.ref D, _, I'', rfl, fin D hD⟩

def tSetC (i : Nat) (te : TE) : TS := fun D σ H => te σ H fun x H1 => D.nx (σ.set i (some x)) H1
/-- y = [.. for ..], y a local: the name is stored ahead of the block's end -/
theorem ps_setC {X : Cx} {tg elt iter : Expr} {ifs : List Expr} {scope : Scope} {pos spos py : Pos} {i : Nat} {y : Str} (ts N2 : List Str) {wi : TI} {g : Dyn → TG} {tt : Dyn → TT} {te : Dyn → TE} (hN : X.N.Nodup) (hi' : X.N[i]? = some y) (hy : X.env.scope.names.lookup y = some .local) (hc : X.calm = true) (hi : PI X tg iter wi)
    (hg : ∀ d, PG (compCx X scope (ts ++ N2) d) tg (g d)) (ht : ∀ d, PTs (compCx X scope (ts ++ N2) d) ifs (tt d)) (he : ∀ d, PE (compCx X scope (ts ++ N2) d) elt (te d))
    (hkind : scope.kind = .function) (hown : okOwn scope.names = true) (hfree : okFree scope.names X.env = true) (hout : okOuts scope.names N2 X.N = true)
    (hsw : swapsWith (.ListComp elt [⟨tg, iter, ifs, 0⟩] scope pos) (some (.Name y py)) spos.line X.env = pure true)
    (hs : ∀ x, foldedSetIterable iter X.env x = pure x := by intro _; rfl) : PS X (.Assign [.Name y py] (.ListComp elt [⟨tg, iter, ifs, 0⟩] scope pos) spos) (tSetC i (tComp ts.length wi g tt te)) := by
  intro pins s σ H D0 I h
  obtain ⟨cl, hclos, hcl1, hcl2⟩ := closure_of (scope := scope) (env := X.env) fun z hz hf => I.ok.has z.1 (okFree_has hfree hz hf)
  rw [exec_Assign_Name_used _ _ _ _ hsw]
  refine wpAny_bind (wpAny_standAt (wpAny_bind ?_))
  show wpAny _ X.A (do let _ ← comprehension (.ListComp elt [⟨tg, iter, ifs, 0⟩] scope pos) scope X.env _ (newList []) false (eval iter X.env) (some (assign (.Name y py) X.env))) _ _ s
  refine wpAny_bind (wpAny_mono (wpAny_comprehension_free (use := some (assign (.Name y py) X.env)) (Q := fun _ s' => SP X pins D0 .next s') rfl hs hclos hkind (okOwn_local hown)
    (thn (hi pins s σ H _ I h) fun v s1 h1 => thn h1 fun itv s2 h2 => ?_)) (fun _ s' hq => wpAny_pure (wpAny_pure hq)) fun _ _ e => e)
  obtain ⟨it, fp, tn, J, H2, e, I2, T, st2, f2, hW⟩ := h2
  subst e
  refine comp_block (RR := fun acc C => compPost (model X.prog X.w) X.A X.xe (some (assign (.Name y py) X.env)) (fun _ s' => SP X pins D0 .next s') acc C) I2 hc T st2 f2 hkind hown hfree hout hcl1 hcl2 hg ht he hW ?_
  intro D C s' H' ys hC hCD I' hD hCn hNs hl fin
  obtain ⟨m, hm⟩ := hNs
  show wpAny _ _ _ _ _ _
  have hcl : C ≠ X.env.locals := Nat.ne_of_gt (Nat.lt_of_lt_of_le I2.lt hC)
  have hcc : ∀ x c, X.env.cells.lookup x = some c → c ≠ C := fun x c e => by
    obtain ⟨v, q⟩ := I2.cell x c e
    exact Nat.ne_of_lt (Nat.lt_of_lt_of_le q.lt hC)
  refine wpAny_assign_Name (store_ok2 I' hN hi' (.inl hy) (v := .ref D) (u := .ref D) rfl (fun s'' I'' ⟨a, sb, ha⟩ => ?_) (.inr hy))
  have haC : C ≠ a := by
    rcases ha with z | z
    · rw [z]; exact hcl
    · exact Ne.symm (hcc y a z)
  refine ⟨m, hm.sameBut sb haC, fun h' sb' => ?_⟩
  have I3 : Inv X pins (σ.set i (some (.ref D))) (upd H' D (.lst ys)) { s'' with heap := h' } := by
    refine I''.turned (t' := s''.toks) (it := C) (fun b o hb e => sb'.extBut b o hb e) (by rw [upd_ne hCD]; exact hCn) hcl (.inr (Nat.le_trans I2.sz hC)) hcc fun p hp => ?_
    exact Nat.ne_of_lt (Nat.lt_of_lt_of_le (Heap.lt_size (I2.pin p hp).1) hC)
  exact ⟨_, _, I3, fin D hD⟩

/-! ### the forms one uses -/
section
variable {σ : St} {k : Nat} {g : TG} {tt : TT} {te : TE} {H1 : Hp} {Fin : List V → Hp → Prop}
theorem comp_range {lo : Int} {n : Nat} (Pv : Nat → List V → Hp → Prop) (h0 : Pv 0 [] H1) (hz : ∀ i ys H, i ≤ n → Pv i ys H → ys.length ≤ sizeLine)
    (hs : ∀ i ys H, i < n → Pv i ys H → g (.int (lo + i)) (List.replicate k none ++ σ) H fun σ2 H2 => σ2.drop k = σ ∧ tt σ2 H2 fun b H3 => if b = true then te σ2 H3 fun v H4 => Pv (i + 1) (ys ++ [v]) H4 else Pv (i + 1) ys H3)
    (hd : ∀ ys H, Pv n ys H → Fin ys H) : CompW (Itr lo n) σ k g tt te H1 Fin := by
  refine ⟨fun i m ys H => m = n - i ∧ i ≤ n ∧ Pv i ys H, ⟨n, by simp, Nat.zero_le _, h0⟩, ?_⟩
  rintro i m ys H ⟨rfl, hi, p⟩
  refine ⟨hz i ys H hi p, ?_⟩
  by_cases hlt : i < n
  · refine .inr ⟨hlt, Pv (i + 1), fun ys' H' p' => ⟨n - (i + 1), by omega, rfl, hlt, p'⟩, fun x H' y => ?_⟩
    obtain ⟨e, y⟩ := y
    subst e y
    exact hs i ys _ hlt p
  · have e : i = n := by omega
    subst e
    exact .inl ⟨Nat.le_refl _, hd ys H p⟩
theorem comp_list {K : PySem.W.Frag} {a : Addr} {xs : List V} (Pv : Nat → List V → Hp → Prop) (h0 : Pv 0 [] H1) (hz : ∀ i ys H, i ≤ xs.length → Pv i ys H → ys.length ≤ sizeLine ∧ SqL K H a xs)
    (hs : ∀ i x ys H, xs[i]? = some x → Pv i ys H → g x (List.replicate k none ++ σ) H fun σ2 H2 => σ2.drop k = σ ∧ tt σ2 H2 fun b H3 => if b = true then te σ2 H3 fun v H4 => Pv (i + 1) (ys ++ [v]) H4 else Pv (i + 1) ys H3)
    (hd : ∀ ys H, Pv xs.length ys H → Fin ys H) : CompW (Itl K a) σ k g tt te H1 Fin := by
  refine ⟨fun i m ys H => m = xs.length - i ∧ i ≤ xs.length ∧ Pv i ys H, ⟨xs.length, by simp, Nat.zero_le _, h0⟩, ?_⟩
  rintro i m ys H ⟨rfl, hi, p⟩
  have q := (hz i ys H hi p).2
  refine ⟨(hz i ys H hi p).1, ?_⟩
  by_cases hlt : i < xs.length
  · refine .inr ⟨⟨xs, xs[i], q, by simp [hlt]⟩, Pv (i + 1), fun ys' H' p' => ⟨xs.length - (i + 1), by omega, rfl, hlt, p'⟩, fun x H' y => ?_⟩
    obtain ⟨e, y⟩ := y
    subst e
    exact hs i x ys _ (y xs q) p
  · have e : i = xs.length := by omega
    subst e
    exact .inl ⟨⟨xs, q, Nat.le_refl _⟩, hd ys H p⟩
end
end L2

set_option Elab.async false
set_option maxRecDepth 100000
/-! More rules over the hand layer: == and != of lists of ints and of lists of such lists, isinstance, o[i] op= e on lists, own defs by name; the readings as equations. -/
namespace L2
open PySem PySem.Spec PyProof.Rows

/-! ### == -/
theorem vals_get {xs : List V} {us : List Value} (r : Vals xs us) {j : Nat} (h : j < us.length) : ∃ x, xs[j]? = some x ∧ RelV x us[j] := by
  have hl := r.length
  have hj : j < xs.length := by omega
  obtain ⟨u, hu, rx⟩ := r.get (i := j) (x := xs[j]) (by simp [hj])
  refine ⟨xs[j], by simp [hj], ?_⟩
  have : us[j]? = some us[j] := by simp [h]
  rw [this] at hu
  cases hu
  exact rx
theorem all_dec {α : Type} [DecidableEq α] : ∀ {ns ms : List α}, ns.length = ms.length → ((List.range ns.length).all fun j => decide (ns[j]? = ms[j]?)) = decide (ns = ms) := by
  intro ns ms h
  by_cases e : ns = ms
  · subst e
    simp
  · rw [decide_eq_false e]
    cases q : (List.range ns.length).all fun j => decide (ns[j]? = ms[j]?) with
    | false => rfl
    | true =>
      exfalso
      apply e
      apply List.ext_getElem? 
      intro j
      by_cases hj : j < ns.length
      · have := List.all_eq_true.mp q j (List.mem_range.mpr hj)
        simpa using this
      · rw [List.getElem?_eq_none (by omega), List.getElem?_eq_none (by omega)]

section
variable {X : Cx} {pins : List (Addr × Obj)} {σ : St} {H : Hp} {s : Shared} {A : Around} {a b : Addr}
theorem eqAt_ints_at {us vs : List Value} {ns ms : List Int} (hu : Vals (ns.map V.int) us) (hv : Vals (ms.map V.int) vs) (hl : ns.length = ms.length) :
    ∀ j (h1 : j < us.toArray.size) (h2 : j < vs.toArray.size), SeqAt.EqAt A s us.toArray[j] vs.toArray[j] (decide (ns[j]? = ms[j]?)) := by
  intro j h1 h2
  have h1' : j < us.length := by simpa using h1
  have h2' : j < vs.length := by simpa using h2
  obtain ⟨x, ex, rx⟩ := vals_get hu h1'
  obtain ⟨y, ey, ry⟩ := vals_get hv h2'
  rw [List.getElem?_map] at ex ey
  cases e1 : ns[j]? with
  | none => rw [e1] at ex; cases ex
  | some n =>
    cases e2 : ms[j]? with
    | none => rw [e2] at ey; cases ey
    | some m =>
      rw [e1] at ex; rw [e2] at ey
      cases ex; cases ey
      obtain ⟨t, q1⟩ := rx
      obtain ⟨t', q2⟩ := ry
      have z : decide (some n = some m) = (n == m) := by
        by_cases e : n = m
        · subst e; simp
        · rw [decide_eq_false (by simpa using e)]; exact (beq_eq_false_iff_ne.mpr e).symm
      rw [z]
      have q1' : us.toArray[j] = Value.int n t := by simpa using q1
      have q2' : vs.toArray[j] = Value.int m t' := by simpa using q2
      rw [q1', q2']
      exact SeqAt.EqAt.int_int n t m t'
end

/-- a grid: a list of lists of ints -/
def GridL (K : PySem.W.Frag) (H : Hp) (a : Addr) (as : List Addr) (rows : List (List Int)) : Prop := SqL K H a (as.map V.ref) ∧ as.length = rows.length ∧ ∀ (i : Nat) (r : Addr) (ns : List Int), as[i]? = some r → rows[i]? = some ns → SqL K H r (ns.map V.int)
section
variable {X : Cx} {pins : List (Addr × Obj)} {σ : St} {H : Hp} {s : Shared} {A : Around} {a b : Addr}
/-- list of ints == list of ints -/
theorem op_eqL (hu : X.A.units < cLine) : OpR X (compareOp .Eq) (fun x y H Q => ∃ (a b : Addr) (ns ms : List Int), x = .ref a ∧ y = .ref b ∧ SqL X.K H a (ns.map V.int) ∧ SqL X.K H b (ms.map V.int) ∧ Q (.bl (decide (ns = ms))) H) := by
  intro pins s σ H x y v u Q I rx ry h
  obtain ⟨a, b, ns, ms, rfl, rfl, ha, hb, q⟩ := h
  cases rx; cases ry
  obtain ⟨us, r1, p1, z1⟩ := I.list ha
  obtain ⟨vs, r2, p2, z2⟩ := I.list hb
  have l1 := r1.length
  have l2 := r2.length
  rw [List.length_map] at l1 l2
  by_cases hl : ns.length = ms.length
  · refine SeqAt.eq_listAt p1.isList p2.isList (by simp; omega) hu (eqAt_ints_at (A := X.A.in1) (s := s) r1 r2 hl) ?_
    rw [List.size_toArray, ← l1, all_dec hl]
    exact ⟨.bl (decide (ns = ms)), H, I, rfl, q⟩
  · refine SeqAt.eq_list_lengthsAt p1.isList p2.isList (by simp; omega) hu ?_
    rw [decide_eq_false (fun z => hl (by rw [z]))] at q
    exact ⟨.bl false, H, I, rfl, q⟩
end

/-! ### isinstance -/
def kit0 (T1 T2 : String) : Option Bool := if (Value.type T1 == Value.type T2) = true then some true else if PySem.W.kitMeta T2 = true then (fastBuiltinMro T1).map (·.contains (Value.type T2)) else none
theorem kit0_one (K : PySem.W.Frag) (T1 T2 : String) : PySem.W.kitOne K (.type T1) (.type T2) = kit0 T1 T2 := rfl
section
variable {X : Cx}
theorem call_isinst : CallR X (.builtin "isinstance") (fun xs H Q => ∃ x T T1 b, xs = [x, .ty T] ∧ TyOf X.K H x (.type T1) ∧ kit0 T1 T = some b ∧ Q (.bl b) H) := by
  intro pins s σ H xs us Q I r h
  obtain ⟨x, T, T1, b, rfl, ty, e, q⟩ := h
  obtain ⟨u, v, rfl, rx, ry⟩ := Vals.two r
  cases ry
  exact isinst_ok I rx ty ((kit0_one X.K T1 T).trans e) fun tk => ⟨.bl b, H, I.tok _, rfl, q⟩
theorem pe_ty {x : Str} {T : String} {pos : Pos} (hg : Gl X x) (hm : X.mg x = none) (hv : bootBuiltins x = some (.type T)) (hn : x ≠ "__name__" := by decide) (hd : (x == ("__debug__" : Str)) = false := by decide) : PE X (.Name x pos) (tC (.ty T)) :=
  pe_bltn hg hm hv rfl hn hd
end

/-! ### built-in names -/
theorem bt_len : bootBuiltins "len" = some (.builtin "len") := by decide +kernel
theorem bt_isinstance : bootBuiltins "isinstance" = some (.builtin "isinstance") := by decide +kernel
theorem bt_max : bootBuiltins "max" = some (.builtin "max") := by decide +kernel
theorem bt_min : bootBuiltins "min" = some (.builtin "min") := by decide +kernel
theorem bt_int : bootBuiltins "int" = some (.type "int") := by decide +kernel
theorem bt_bool : bootBuiltins "bool" = some (.type "bool") := by decide +kernel
theorem bt_list : bootBuiltins "list" = some (.type "list") := by decide +kernel
theorem bt_set : bootBuiltins "set" = some (.type "set") := by decide +kernel
theorem bt_range : bootBuiltins "range" = some (.type "range") := by decide +kernel
theorem bt_zip : bootBuiltins "zip" = some (.type "zip") := by decide +kernel
theorem bt_enumerate : bootBuiltins "enumerate" = some (.type "enumerate") := by decide +kernel
/-! ### own defs by their names -/
structure DefIn (K : PySem.W.Frag) (mg : Str → Option Value) (name : Str) (st : Stmt) (ps : List Str) : Prop where
  ex : ∃ f fd, mg name = some (.ref f) ∧ Fun K name name st f fd ∧ Binds K fd ps []
structure FnAt (P : Program) (w : World) (K : PySem.W.Frag) (mg : Str → Option Value) (base : Heap) (name : Str) (k : Nat) (ps : List Str) (sp : Sp) : Prop where
  ex : ∃ f fd, mg name = some (.ref f) ∧ PySem.W.keepIn K (.ref f) = true ∧ Binds K fd ps [] ∧ FnOk P w K mg base CX0 k f fd ps sp
theorem FnAt.of {P : Program} {w : World} {K : PySem.W.Frag} {mg : Str → Option Value} {base : Heap} {name : Str} {st : Stmt} {N ps : List Str} {k : Nat} {sp : Sp} (D : DefIn K mg name st ps) (S : FnScope N ps (defScope st)) (len : ∀ vs H Q E, sp vs H Q E → vs.length = ps.length)
    (hbody : ∀ (f : Addr) (cdv : Value) (A : Around) (outer : List Env) (s : Shared) (H : Hp) (vs : List V) (Q : VK) (E : XK), Room k (A.deeper (envOfC name (defScope st) s.heap.objs.size f cdv)) → sp vs H Q E →
      ∃ t, PSs (cxOf CX0 P w K mg base N name (defScope st) f cdv A outer s H E).nox (defBody st) t ∧ t { nx := fun _ H' => Q .non H', rt := Q } (start N vs) H) : FnAt P w K mg base name (k + 1) ps sp := by
  obtain ⟨f, fd, hm, F, hb⟩ := D.ex
  exact ⟨f, fd, hm, F.kp, hb, F.ok S len (hbody f)⟩
theorem def_mk {K : PySem.W.Frag} {h : Heap} {mg : Str → Option Value} (X : K.In h) (G : h.Ns mainGlobals mg) {name : Str} {st : Stmt} {f : Addr} {oc : Value} {od an : Option Addr} {osl : Array (Option Value)} {kV doc pm cdv ct : Value} {ps : List Str}
    (a : PySem.W.nsIn K mainGlobals name = some (some (.ref f))) (l : K.lookup f = some ⟨oc, od, .func (PySem.W.fnOf name name (defArgs st) (defBody st) (defScope st) .none kV doc pm an cdv ct), osl⟩)
    (c : PySem.W.codeIn K cdv name = true) (k : PySem.W.keepIn K (.ref f) = true)
    (hb : ∀ (kV doc pm : Value) (an : Option Addr) (cdv ct : Value) (us : List Value), us.length = ps.length → bindArgs (PySem.W.fnOf name name (defArgs st) (defBody st) (defScope st) .none kV doc pm an cdv ct) ⟨us, []⟩ = pure (ps.zip us)) : DefIn K mg name st ps :=
  ⟨f, _, PySem.W.mg_of X G a, fun_mk l c k, (fun_mk (st := st) l c k).binds hb⟩
section
variable {X : Cx} {x : Str} {k : Nat} {ps : List Str} {sp : Sp} {p pos : Pos} {e : Expr} {es : List Expr} {t : TA}
theorem pe_callA (F : FnAt X.prog X.w X.K X.mg X.base x k ps sp) (hr : Room k X.A) (hg : Gl X x) (ha : PA X (e :: es) t) (hdb : (x == ("__debug__" : Str)) = false := by decide) (he : starEach (e :: es) X.env = (false, eval e X.env) :: starEach es X.env := by rfl)
    (hpl : (backTo pos (starEach es X.env)).any (·.1) = false := by rfl) : PE X (.Call (.Name x p) (e :: es) [] pos) (tCall sp [] E0 t) := by
  obtain ⟨f, fd, hm, hk, hb, G⟩ := F.ex
  exact pe_call G hr hg hm hk hb .nil pass0 ha hdb he hpl
end

theorem cxK {CX : CXT} {P : Program} {w : World} {K : PySem.W.Frag} {mg : Str → Option Value} {base : Heap} {N : List Str} {qual : Str} {scope : Scope} {f : Addr} {cd : Value} {A : Around} {outer : List Env} {s : Shared} {H : Hp} {E : XK} : (cxOf CX P w K mg base N qual scope f cd A outer s H E).K = K := rfl
/-! ### the readings as equations, whole applications alone -/
section
variable {D : Ends} {σ : St} {H : Hp} {Q : VK} {QT : Bool → Hp → Prop} {QA : List V → Hp → Prop} {QS : St → Hp → Prop} {R : It → Hp → Prop} {a b c : TE} {s t : TS} {tt uu : TT} {ta tr : TA} {g : TG} {i : Nat} {v x y z : V} {r r' : R2} {wi : TI}
theorem e_var : tVar i σ H Q = ∃ v, σ[i]? = some (some v) ∧ Q v H := rfl
theorem e_C : tC v σ H Q = Q v H := rfl
theorem e_op : tOp r a b σ H Q = a σ H fun x H1 => b σ H1 fun y H2 => r x y H2 Q := rfl
theorem e_un {u : V → Hp → VK → Prop} : tUn u a σ H Q = a σ H fun x H1 => u x H1 Q := rfl
theorem e_rI {C : Int → Int → Prop} {f : Int → Int → V} : rI C f x y H Q = ∃ i j, x = .int i ∧ y = .int j ∧ C i j ∧ Q (f i j) H := rfl
theorem e_rI0 {f : Int → Int → V} : rI0 f x y H Q = ∃ i j, x = .int i ∧ y = .int j ∧ Q (f i j) H := rfl
theorem e_rU {f : Int → V} : rU f x H Q = ∃ i, x = .int i ∧ Q (f i) H := rfl
theorem e_rEq : rEq x y H Q = (scal x y = true ∧ Q (.bl (decide (x = y))) H) := rfl
theorem e_rNe : rNe x y H Q = (scal x y = true ∧ Q (.bl (!decide (x = y))) H) := rfl
theorem e_ixL {K : PySem.W.Frag} : rIxL K x y H Q = ∃ p xs i v, x = .ref p ∧ y = .int i ∧ SqL K H p xs ∧ atI xs i = some v ∧ Q v H := rfl
theorem e_ixT {K : PySem.W.Frag} : rIxT K x y H Q = ∃ p xs i v, x = .ref p ∧ y = .int i ∧ SqT K H p xs ∧ atI xs i = some v ∧ Q v H := rfl
theorem e_set {o i v : V} {Q : Hp → Prop} : rSetL o i v H Q = ∃ p xs k j, o = .ref p ∧ i = .int k ∧ H p = some (.lst xs) ∧ ixN xs.length k = some j ∧ Q (upd H p (.lst (xs.set j v))) := rfl
theorem e_cat : rCat x y H Q = ∃ l b xs zs, x = .ref l ∧ y = .ref b ∧ H l = some (.lst xs) ∧ H b = some (.lst zs) ∧ xs.length + zs.length ≤ sizeLine ∧ ∀ p, H p = none → Q (.ref p) (upd H p (.lst (xs ++ zs))) := rfl
theorem e_test : tTest a σ H QT = a σ H fun x H' => ∃ k, x = .bl k ∧ QT k H' := rfl
theorem e_B : tB a σ H QT = a σ H fun x H1 => ∃ c, x = .bl c ∧ QT c H1 := rfl
theorem e_and : tAnd tt uu σ H QT = tt σ H fun c H1 => if c = true then uu σ H1 QT else QT false H1 := rfl
theorem e_or : tOr tt uu σ H QT = tt σ H fun c H1 => if c = true then QT true H1 else uu σ H1 QT := rfl
theorem e_not : tNot tt σ H QT = tt σ H fun c H1 => QT (!c) H1 := rfl
theorem e_andV : tAndV a b σ H Q = a σ H fun x H1 => ∃ c, x = .bl c ∧ if c = true then b σ H1 Q else Q (.bl false) H1 := rfl
theorem e_orV : tOrV a b σ H Q = a σ H fun x H1 => ∃ c, x = .bl c ∧ if c = true then Q (.bl true) H1 else b σ H1 Q := rfl
theorem e_notV : tNotV a σ H Q = a σ H fun x H1 => ∃ c, x = .bl c ∧ Q (.bl (!c)) H1 := rfl
theorem e_ifE : tIf tt a b σ H Q = tt σ H fun c H1 => if c = true then a σ H1 Q else b σ H1 Q := rfl
theorem e_all : tAll σ H QT = QT true H := rfl
theorem e_next : tNext D σ H = D.nx σ H := rfl
theorem e_seq : tSeq s t D σ H = s { D with nx := t D } σ H := rfl
theorem e_brk : tBreak D σ H = D.bk σ H := rfl
theorem e_cnt : tCont D σ H = D.ct σ H := rfl
theorem e_drop : tDrop a D σ H = a σ H fun _ H1 => D.nx σ H1 := rfl
theorem e_ret : tRet a D σ H = a σ H D.rt := rfl
theorem e_retN : tRetN D σ H = D.rt .non H := rfl
theorem e_ifS : tIfS tt s t D σ H = tt σ H fun b H1 => if b = true then s D σ H1 else t D σ H1 := rfl
theorem e_asg : tAsg a g D σ H = a σ H fun x H1 => g x σ H1 D.nx := rfl
theorem e_gName : gName i v σ H QS = QS (σ.set i (some v)) H := rfl
theorem e_setC : tSetC i a D σ H = a σ H fun x H1 => D.nx (σ.set i (some x)) H1 := rfl
theorem e_augS {tget : V → V → Hp → VK → Prop} {tip : TIp} {tset : TSet} : tAugS a b c tget tip tset D σ H = a σ H fun o H1 => b σ H1 fun i H2 => tget o i H2 fun x H3 => c σ H3 fun y H4 => tip x y H4 fun z H5 => tset o i z H5 fun H6 => D.nx σ H6 := rfl
theorem e_ipI {f : Int → Int → Int} : ipI f x y H Q = ∃ i j, x = .int i ∧ y = .int j ∧ Q (.int (f i j)) H := rfl
theorem e_nil : tNil σ H QA = QA [] H := rfl
theorem e_cons : tCons a ta σ H QA = a σ H fun x H1 => ta σ H1 fun xs H2 => QA (x :: xs) H2 := rfl
theorem e_tup : tTup ta σ H Q = ta σ H fun xs H1 => xs.length ≤ sizeLine ∧ ∀ p, H1 p = none → Q (.ref p) (upd H1 p (.tup xs)) := rfl
theorem e_lst : tLst ta σ H Q = ta σ H fun xs H1 => xs.length ≤ sizeLine ∧ ∀ p, H1 p = none → Q (.ref p) (upd H1 p (.lst xs)) := rfl
theorem e_call {sp : Sp} {E : XK} : tCall sp [] E ta σ H Q = ta σ H fun vs H1 => sp (vs ++ []) H1 Q E := rfl
theorem e_CB {u : List V → Hp → VK → Prop} : tCB u ta σ H Q = ta σ H fun vs H1 => u vs H1 Q := rfl
theorem e_BM {K : PySem.W.Frag} {T : String} {u : V → List V → Hp → VK → Prop} : tBM K T u a ta σ H Q = a σ H fun x H1 => tyV K T x H1 ∧ ta σ H1 fun xs H2 => u x xs H2 Q := rfl
theorem e_app {vs : List V} : rAppend x vs H Q = ∃ l xs y, x = .ref l ∧ vs = [y] ∧ H l = some (.lst xs) ∧ xs.length < sizeLine ∧ Q .non (upd H l (.lst (xs ++ [y]))) := rfl
theorem e_rng1 : iRng1 ta σ H R = ta σ H fun vs H1 => ∃ j : Int, vs = [.int j] ∧ -(2 ^ 62) ≤ j ∧ j < 2 ^ 62 ∧ R (Itr 0 j.toNat) H1 := rfl
theorem e_rng2 : iRng2 ta σ H R = ta σ H fun vs H1 => ∃ i j : Int, vs = [.int i, .int j] ∧ (-(2 ^ 62) ≤ i ∧ i < 2 ^ 62 ∧ -(2 ^ 62) ≤ j ∧ j < 2 ^ 62) ∧ R (Itr i (j - i).toNat) H1 := rfl
theorem e_iL {K : PySem.W.Frag} : iList K a σ H R = a σ H fun x H1 => ∃ p, x = .ref p ∧ (∃ xs, SqL K H1 p xs) ∧ R (Itl K p) H1 := rfl
/-- a loop's walk -/
def ForW (J : It) (g : TG) (tb : TS) (D : Ends) (σ : St) (H1 : Hp) : Prop := ∃ W : Nat → Nat → St → Hp → Prop, (∃ m, W 0 m σ H1) ∧ ∀ i m σ H, W i m σ H →
  (J.stop i H ∧ D.nx σ H) ∨ (J.go i H ∧ ∃ N : St → Hp → Prop, (∀ σ' H', N σ' H' → ∃ m', m' < m ∧ W (i + 1) m' σ' H') ∧ ∀ x H', J.yld i H x H' → g x σ H' fun σ2 H2 => tb { D with nx := N, ct := N, bk := D.nx } σ2 H2)
theorem e_for : tFor wi g t D σ H = wi σ H fun J H1 => ForW J g t D σ H1 := rfl
theorem e_comp {k : Nat} {g : Dyn → TG} {tt : Dyn → TT} {te : Dyn → TE} : tComp k wi g tt te σ H Q = wi σ H fun J H1 => ∀ d : Dyn, CompW J σ k (g d) (tt d) (te d) H1 fun ys H' => ∀ l, H' l = none → Q (.ref l) (upd H' l (.lst ys)) := rfl
end
end L2

set_option Elab.async false
set_option maxRecDepth 100000
/-! sum, all of a list; zip of two lists, walked with a tuple of names. -/
namespace L2
open PySem PySem.Spec PyProof.Rows
section
variable {X : Cx}
end

/-! ### zip(a, b) -/
/-- at turn i: a new tuple of the i-th things of both lists -/
def Itz (K : PySem.W.Frag) (a b : Addr) : It :=
  ⟨fun i H => ∃ xs ys x y, SqL K H a xs ∧ SqL K H b ys ∧ xs[i]? = some x ∧ ys[i]? = some y,
   fun i H v H' => ∃ T x y, v = .ref T ∧ H T = none ∧ H' = upd H T (.tup [x, y]) ∧ ∀ xs ys, SqL K H a xs → SqL K H b ys → xs[i]? = some x ∧ ys[i]? = some y,
   fun i H => ∃ xs ys, SqL K H a xs ∧ SqL K H b ys ∧ (xs.length ≤ i ∨ ys.length ≤ i)⟩
structure Apart5 (z TI TO i1 i2 : Addr) : Prop where
  TIz : TI ≠ z
  TOz : TO ≠ z
  i1z : i1 ≠ z
  i2z : i2 ≠ z
  TITO : TI ≠ TO
  TIi1 : TI ≠ i1
  TIi2 : TI ≠ i2
  TOi1 : TO ≠ i1
  TOi2 : TO ≠ i2
  i12 : i1 ≠ i2
def tnZip (z TI TO i1 i2 l1 l2 : Addr) (i : Nat) (h : Heap) : Prop := IsZip h z TI TO .none ∧ IsPair h TI (.ref i1) (.ref i2) ∧ (∃ a b, IsPair h TO a b) ∧ h.IsListIter i1 l1 i ∧ h.IsListIter i2 l2 i
theorem zip_apart {z TI TO i1 i2 l1 l2 : Addr} {i : Nat} {h : Heap} {xs ys : Array Value} (D : Apart5 z TI TO i1 i2) (t : tnZip z TI TO i1 i2 l1 l2 i h) (h1 : h.IsList l1 xs) (h2 : h.IsList l2 ys) : ZipApart z TI TO i1 i2 l1 l2 := by
  obtain ⟨hz, hTI, ⟨a, b, hTO⟩, k1, k2⟩ := t
  have n1 : ∀ {l : Addr} {ws : Array Value}, h.IsList l ws → l ≠ z := fun {l ws} q e => by
    obtain ⟨o, e1, c, _⟩ := q
    subst e
    rw [hz] at e1; cases e1; simp at c
  have n2 : ∀ {l : Addr} {ws : Array Value}, h.IsList l ws → l ≠ TO := fun {l ws} q e => by
    obtain ⟨o, e1, c, _⟩ := q
    subst e
    rw [hTO] at e1; cases e1; simp at c
  have n3 : ∀ {l j l' : Addr} {k : Nat} {ws : Array Value}, h.IsListIter j l' k → h.IsList l ws → l ≠ j := fun {l j l' k ws} k1 q e => by
    obtain ⟨o, e1, c, _⟩ := q
    obtain ⟨o', e1', c', _⟩ := k1
    subst e
    rw [e1'] at e1; cases e1; rw [c'] at c; simp at c
  exact ⟨D.TIz, D.TOz, D.i1z, D.i2z, D.TITO, D.TIi1, D.TIi2, D.TOi1, D.TOi2, D.i12, n1 h1, n2 h1, n3 k1 h1, n3 k2 h1, n1 h2, n2 h2, n3 k1 h2, n3 k2 h2⟩
/-- untracked records of ours have turned, a new thing is laid -/
theorem Inv.turnedLaid {X : Cx} {pins : List (Addr × Obj)} {σ : St} {H : Hp} {s : Shared} {h' : Heap} {t' : Nat} {ch : List Addr} {T : Addr} {o : HO} (I : Inv X pins σ H s) (hf : ∀ b ∈ ch, FpOk X pins H b)
    (k : ∀ b o, b ∉ ch → s.heap.get? b = some o → h'.get? b = some o) (hT : s.heap.objs.size ≤ T) (new : ObjOk X.prog X.w (upd H T o) h' T o) : Inv X pins σ (upd H T o) { s with heap := h', toks := t' } := by
  have nch : ∀ b u, H b = some u → b ∉ ch := fun b u e z => by rw [(hf b z).1] at e; cases e
  have nT : ∀ b u, H b = some u → b ≠ T := fun b u e => Nat.ne_of_lt (Nat.lt_of_lt_of_le (I.hok.lt e) hT)
  have nT' : ∀ b u, s.heap.get? b = some u → b ≠ T := fun b u e => Nat.ne_of_lt (Nat.lt_of_lt_of_le (Heap.lt_size e) hT)
  refine I.step (g' := s.gens) (d' := s.drawn) (ch := ch) (fun b hb => ?_) (fun b o _ _ hc e _ => k b o hc e) (fun b o _ _ hc e _ => ⟨o.slots, k b o hc e⟩) (fun b o _ e n => by rw [upd_ne (nT' b o e)]; exact n)
    (fun b o hc e => ⟨o, k b o hc e⟩) (fun b xs e => by rw [upd_ne (nT b _ e)]; exact e) (fun b ob u e => by rw [upd_ne (nT b _ e)]; exact e) (fun b ps e => ⟨#[], by rw [upd_ne (nT b _ e), e]; simp⟩) (fun m hm => ?_) (fun b u e => ?_) I.bare
  · obtain ⟨f0, f1, f2, f3, f4, f5⟩ := hf b hb
    exact ⟨f3, f1, f4, f5⟩
  · obtain ⟨ob, es, ep, ho, r⟩ := hm
    exact ⟨ob, es, ep, k _ ob (fun z => (hf _ z).2.1 rfl) ho, r⟩
  · by_cases hb : b = T
    · subst hb
      rw [upd_same] at e
      cases e
      exact new
    · rw [upd_ne hb] at e
      refine (I.hok b u e).stay (fun c v hc q => k c v ?_ q) (fun c q => by rw [upd_ne (nT c _ q)]; exact q) fun c xs q => by rw [upd_ne (nT c _ q)]; exact q
      rcases hc with z | z
      · rw [z]; exact nch b u e
      · exact nch c _ z
theorem turn_zip {P : Program} {w : World} {K : PySem.W.Frag} {elts : List Expr} {x1 : Nat} {pos : Pos} (z TI TO i1 i2 l1 l2 : Addr) (D : Apart5 z TI TO i1 i2) :
    Turn P w K (.Tuple elts x1 pos) (Itz K l1 l2) [z, TI, TO, i1, i2] z (tnZip z TI TO i1 i2 l1 l2) where
  mem := by simp
  obj := fun i h st b hb => by
    obtain ⟨hz, hTI, ⟨a, b', hTO⟩, ⟨o1, e1, c1, d1⟩, ⟨o2, e2, c2, d2⟩⟩ := st
    simp only [List.mem_cons, List.not_mem_nil, or_false] at hb
    rcases hb with rfl | rfl | rfl | rfl | rfl
    · exact ⟨_, hz, fun v q => by cases q⟩
    · exact ⟨_, hTI, fun v q => by cases q⟩
    · exact ⟨_, hTO, fun v q => by cases q⟩
    · exact ⟨o1, e1, fun v q => by rw [d1] at q; cases q⟩
    · exact ⟨o2, e2, fun v q => by rw [d2] at q; cases q⟩
  keep := fun i h h' st k => by
    obtain ⟨hz, hTI, ⟨a, b, hTO⟩, h1, h2⟩ := st
    exact ⟨k z (by simp) _ hz, k TI (by simp) _ hTI, ⟨a, b, k TO (by simp) _ hTO⟩, h1.at fun o e => k i1 (by simp) o e, h2.at fun o e => k i2 (by simp) o e⟩
  item := by
    intro X hP hw hK hc i pins s σ H E I hf st hg
    subst hP hw hK
    obtain ⟨xs, ys, x, y, qa, qb, hx, hy⟩ := hg
    obtain ⟨us, ru, pu, zu⟩ := I.list qa
    obtain ⟨vs, rv, pv', zv⟩ := I.list qb
    obtain ⟨u, hu, rxu⟩ := ru.get hx
    obtain ⟨v, hv, ryv⟩ := rv.get hy
    have A := zip_apart D st pu.isList pv'.isList
    obtain ⟨hz, hTI, ⟨a, b, hTO⟩, h1, h2⟩ := id st
    refine wpAny_pyNext_zip_item A hz hTI hTO h1 h2 pu.isList pv'.isList (x := u) (y := v) (by simpa using hu) (by simpa using hv) fun h' a1 a2 a3 a4 a5 a6 hk => ?_
    have ltT : ∀ {c o}, s.heap.get? c = some o → c ≠ s.heap.objs.size := fun e => Nat.ne_of_lt (Heap.lt_size e)
    refine ⟨_, rfl, wpAny_letOwnedTupleGo_zip (s := { s with heap := h' }) a1 fun h'' b1 sb => ?_⟩
    have hTz : s.heap.objs.size ≠ z := Ne.symm (ltT hz)
    have hf4 : ∀ b ∈ [z, TO, i1, i2], FpOk X pins H b := fun b hb => hf b (by
      simp only [List.mem_cons, List.not_mem_nil, or_false] at hb ⊢
      rcases hb with h | h | h | h <;> simp [h])
    have I1 : Inv X pins σ (upd H s.heap.objs.size (.tup [x, y])) { s with heap := h'', toks := s.toks } := I.turnedLaid (ch := [z, TO, i1, i2]) hf4 (fun b o hb e => by
      simp only [List.mem_cons, List.not_mem_nil, or_false, not_or] at hb
      exact sb.extBut b o hb.1 (hk b o hb.1 hb.2.1 hb.2.2.1 hb.2.2.2 e)) (Nat.le_refl _) ⟨by show 2 ≤ sizeLine; decide, [u, v], .cons rxu (.cons ryv .nil), by
        have e := sb.extBut _ _ hTz a5
        exact ⟨_, e, rfl, _, rfl, rfl⟩⟩
    refine ⟨.ref s.heap.objs.size, _, I1, rfl, ⟨s.heap.objs.size, x, y, rfl, I.hok.fresh (Nat.le_refl _), rfl, fun xs' ys' q1 q2 => ?_⟩, ?_, fun b hb => ?_⟩
    · rw [I.list_inj q1 qa, I.list_inj q2 qb]
      exact ⟨hx, hy⟩
    · exact ⟨b1, sb.extBut _ _ A.TIz (hk _ _ A.TIz A.TITO A.TIi1 A.TIi2 hTI), ⟨_, _, sb.extBut _ _ A.TOz a2⟩, a3.extBut sb.extBut A.i1z, a4.extBut sb.extBut A.i2z⟩
    · have hb' := (hf b hb).1
      rw [upd_ne ?_]
      · exact hb'
      · simp only [List.mem_cons, List.not_mem_nil, or_false] at hb
        rcases hb with rfl | rfl | rfl | rfl | rfl
        · exact ltT hz
        · exact ltT hTI
        · exact ltT hTO
        · obtain ⟨_, e, _⟩ := h1; exact ltT e
        · obtain ⟨_, e, _⟩ := h2; exact ltT e
  done := by
    intro X hP hw hK hc i pins s σ H E I hf st hg
    subst hP hw hK
    obtain ⟨xs, ys, qa, qb, hend⟩ := hg
    obtain ⟨us, ru, pu, zu⟩ := I.list qa
    obtain ⟨vs, rv, pv', zv⟩ := I.list qb
    have A := zip_apart D st pu.isList pv'.isList
    obtain ⟨hz, hTI, ⟨a, b, hTO⟩, h1, h2⟩ := id st
    have l1' := ru.length
    have l2' := rv.length
    refine wpAny_pyNext_zip_end (I.ok.hd hc) A hz hTI hTO h1 h2 pu.isList pv'.isList (by
      rcases hend with h | h
      · left; simp; omega
      · right; simp; omega) fun h' hk => ⟨rfl, ?_⟩
    have nch : ∀ b u, H b = some u → b ∉ [z, TO, i1, i2] := fun b u e q => by
      have := (hf b (by simp only [List.mem_cons, List.not_mem_nil, or_false] at q ⊢; rcases q with h | h | h | h <;> simp [h])).1
      rw [this] at e; cases e
    have k : ∀ b o, b ∉ [z, TO, i1, i2] → s.heap.get? b = some o → h'.get? b = some o := fun b o hb e => by
      simp only [List.mem_cons, List.not_mem_nil, or_false, not_or] at hb
      exact hk b o hb.1 hb.2.1 hb.2.2.1 hb.2.2.2 e
    have hf4 : ∀ b ∈ [z, TO, i1, i2], FpOk X pins H b := fun b hb => hf b (by
      simp only [List.mem_cons, List.not_mem_nil, or_false] at hb ⊢
      rcases hb with h | h | h | h <;> simp [h])
    exact I.step (g' := s.gens) (d' := s.drawn) (t' := s.toks) (ch := [z, TO, i1, i2]) (fun b hb => by
        obtain ⟨f0, f1, f2, f3, f4, f5⟩ := hf4 b hb
        exact ⟨f3, f1, f4, f5⟩) (fun b o _ _ hc e _ => k b o hc e) (fun b o _ _ hc e _ => ⟨o.slots, k b o hc e⟩) (fun b o _ e n => n)
      (fun b o hc e => ⟨o, k b o hc e⟩) (fun b xs e => e) (fun b ob u e => e) (fun b ps e => ⟨#[], by rw [e]; simp⟩) (fun m hm => by
        obtain ⟨ob, es, ep, ho, r⟩ := hm
        exact ⟨ob, es, ep, k _ ob (fun q => (hf4 _ q).2.1 rfl) ho, r⟩) (fun b u e => (I.hok b u e).stay (fun c v hc q => k c v (by
          rcases hc with r | r
          · rw [r]; exact nch b u e
          · exact nch c _ r) q) (fun _ q => q) fun _ _ q => q) I.bare
  self := fun _ _ _ _ _ st h => wpAny_pyIter_zip st.1 h
def iZip (K : PySem.W.Frag) (ta : TA) : TI := fun σ H R => ta σ H fun vs H1 => ∃ a b, vs = [.ref a, .ref b] ∧ (∃ xs, SqL K H1 a xs) ∧ (∃ ys, SqL K H1 b ys) ∧ R (Itz K a b) H1
theorem pi_zip {X : Cx} {a b : Expr} {ta : TA} {p pos tpos : Pos} {elts : List Expr} {x1 : Nat} (hg : Gl X "zip") (hm : X.mg "zip" = none) (ha : PA X [a, b] ta) (hs : starEach [a, b] X.env = [(false, eval a X.env), (false, eval b X.env)] := by rfl) (hs2 : starEach [b] X.env = [(false, eval b X.env)] := by rfl) :
    PI X (.Tuple elts x1 tpos) (.Call (.Name "zip" p) [a, b] [] pos) (iZip X.K ta) := by
  intro pins s σ H R I h
  refine Call_ (ld_blt I hg hm bt_zip (PyProof.Rows.callWith_type1 (thn (ha pos pins s σ H _ I h) fun us s1 ⟨vs, H1, I1, r1, q1⟩ => ?_) (by rw [hs, hs2]) (by rw [hs2]; rfl)))
  obtain ⟨a, b, e, ⟨xs, qa⟩, ⟨ys, qb⟩, q⟩ := q1
  subst e
  obtain ⟨u, v, rfl, ru, rv⟩ := Vals.two r1
  cases ru; cases rv
  obtain ⟨its, _, pa, _⟩ := I1.list qa
  obtain ⟨jts, _, pb, _⟩ := I1.list qb
  refine call_zip_2 pa.isList pb.isList fun h' z1 z2 z3 z4 z5 z6 kp => ?_
  refine wpAny_pyIter_zip (s := { s1 with heap := h' }) z1 ?_
  have I2 : Inv X pins σ H1 { s1 with heap := h' } := I1.kept (t' := s1.toks) kp
  have D : Apart5 (s1.heap.objs.size + 4) (s1.heap.objs.size + 2) (s1.heap.objs.size + 3) s1.heap.objs.size (s1.heap.objs.size + 1) := by constructor <;> (show (_ : Nat) ≠ _; omega)
  refine ⟨s1.heap.objs.size + 4, [s1.heap.objs.size + 4, s1.heap.objs.size + 2, s1.heap.objs.size + 3, s1.heap.objs.size, s1.heap.objs.size + 1], _, _, H1, rfl, I2, turn_zip _ _ _ _ _ a b D, ⟨z1, z2, ⟨_, _, z3⟩, z4, z5⟩, fun c hc => ?_, q⟩
  have hle : s1.heap.objs.size ≤ c := by
    simp only [List.mem_cons, List.not_mem_nil, or_false] at hc
    rcases hc with h | h | h | h | h <;> (rw [h]; omega)
  exact I1.fpOk hle (I1.hok.fresh hle)
theorem e_zip {K : PySem.W.Frag} {ta : TA} {σ : St} {H : Hp} {R : It → Hp → Prop} : iZip K ta σ H R = ta σ H fun vs H1 => ∃ a b, vs = [.ref a, .ref b] ∧ (∃ xs, SqL K H1 a xs) ∧ (∃ ys, SqL K H1 b ys) ∧ R (Itz K a b) H1 := rfl
theorem e_gTup {K : PySem.W.Frag} {n : Nat} {t : TGs} {v : V} {σ : St} {H : Hp} {Q : St → Hp → Prop} : gTup K n t v σ H Q = ∃ a xs, v = .ref a ∧ SqT K H a xs ∧ xs.length = n ∧ t xs σ H Q := rfl
theorem e_gNil {vs : List V} {σ : St} {H : Hp} {Q : St → Hp → Prop} : gNil vs σ H Q = (vs = [] ∧ Q σ H) := rfl
theorem e_gCons {t : TG} {u : TGs} {vs : List V} {σ : St} {H : Hp} {Q : St → Hp → Prop} : gCons t u vs σ H Q = ∃ v r, vs = v :: r ∧ t v σ H fun σ' H' => u r σ' H' Q := rfl
end L2

set_option Elab.async false
set_option maxRecDepth 100000
/-! == and != of two lists of flat things -/
namespace L2
open PySem PySem.Spec PyProof.Rows
def eqVs : List V → List V → Bool
  | [], [] => true
  | x :: xs, y :: ys => eqV x y && eqVs xs ys
  | _, _ => false
theorem eqVs_range : ∀ {xs ys : List V}, xs.length = ys.length → ((List.range xs.length).all fun j => eqV (xs.getD j .non) (ys.getD j .non)) = eqVs xs ys
  | [], [], _ => rfl
  | [], _ :: _, h => by simp at h
  | _ :: _, [], h => by simp at h
  | x :: xs, y :: ys, h => by
    have ih := @eqVs_range xs ys (by simpa using h)
    rw [List.length_cons, List.range_succ_eq_map, List.all_cons, List.all_map]
    show (eqV x y && _) = (eqV x y && eqVs xs ys)
    rw [← ih]
    rfl
theorem eqVs_len : ∀ {xs ys : List V}, xs.length ≠ ys.length → eqVs xs ys = false
  | [], [], h => by simp at h
  | [], _ :: _, _ => rfl
  | _ :: _, [], _ => rfl
  | x :: xs, y :: ys, h => by
    have ih := @eqVs_len xs ys (by simpa using h)
    unfold eqVs
    rw [ih, Bool.and_false]
theorem all_flat_get {xs : List V} (h : xs.all flatV = true) {j : Nat} {x : V} (e : xs[j]? = some x) : flatV x = true := List.all_eq_true.mp h x (List.mem_of_getElem? e)
theorem eqAt_flat_at {A : Around} {s : Shared} {us vs : List Value} {xs ys : List V} (hu : Vals xs us) (hv : Vals ys vs) (fx : xs.all flatV = true) (fy : ys.all flatV = true) :
    ∀ j (h1 : j < us.toArray.size) (h2 : j < vs.toArray.size), SeqAt.EqAt A s us.toArray[j] vs.toArray[j] (eqV (xs.getD j .non) (ys.getD j .non)) := by
  intro j h1 h2
  have h1' : j < us.length := by simpa using h1
  have h2' : j < vs.length := by simpa using h2
  obtain ⟨x, ex, rx⟩ := vals_get hu h1'
  obtain ⟨y, ey, ry⟩ := vals_get hv h2'
  rw [List.getElem_toArray, List.getElem_toArray, List.getD_eq_getElem?_getD, List.getD_eq_getElem?_getD, ex, ey]
  exact eqAt_V rx ry (all_flat_get fx ex) (all_flat_get fy ey)
section
variable {X : Cx}
end
section
variable {X : Cx}
theorem tup_all {xs ys : List V} : (((List.range (min xs.length ys.length)).all fun j => eqV (xs.getD j .non) (ys.getD j .non)) && xs.length == ys.length) = eqVs xs ys := by
  by_cases hl : xs.length = ys.length
  · rw [← hl, Nat.min_self, eqVs_range hl]
    simp
  · rw [eqVs_len hl, show (xs.length == ys.length) = false by simpa using hl, Bool.and_false]
theorem op_eqT (hu : X.A.units < cLine) : OpR X (compareOp .Eq) (fun x y H Q => ∃ (a b : Addr) (xs ys : List V), x = .ref a ∧ y = .ref b ∧ SqT X.K H a xs ∧ SqT X.K H b ys ∧ xs.all flatV = true ∧ ys.all flatV = true ∧ Q (.bl (eqVs xs ys)) H) := by
  intro pins s σ H x y v u Q I rx ry h
  obtain ⟨a, b, xs, ys, rfl, rfl, ha, hb, fx, fy, q⟩ := h
  cases rx; cases ry
  obtain ⟨us, r1, p1, z1⟩ := I.tuple ha
  obtain ⟨vs, r2, p2, z2⟩ := I.tuple hb
  have l1 := r1.length
  have l2 := r2.length
  refine SeqAt.eq_tupleAt (show s.heap.IsTuple a us.toArray from p1) (show s.heap.IsTuple b vs.toArray from p2) hu (eqAt_flat_at (A := X.A.in1) (s := s) r1 r2 fx fy) ?_
  rw [List.size_toArray, List.size_toArray, ← l1, ← l2, tup_all]
  exact ⟨.bl (eqVs xs ys), H, I, rfl, q⟩
end
theorem e_gSub {to ti : TE} {t : TSet} {v : V} {σ : St} {H : Hp} {Q : St → Hp → Prop} : gSub to ti t v σ H Q = to σ H fun o H1 => ti σ H1 fun i H2 => t o i v H2 fun H3 => Q σ H3 := rfl
theorem e_rep {x y : V} {H : Hp} {Q : VK} : rRep x y H Q = ∃ l k xs, x = .ref l ∧ y = .int k ∧ H l = some (.lst xs) ∧ -(2 ^ 63) ≤ k ∧ k < 2 ^ 63 ∧ xs.length * k.toNat ≤ sizeLine ∧ ∀ p, H p = none → Q (.ref p) (upd H p (.lst (List.replicate k.toNat xs).flatten)) := rfl
end L2
namespace L2
open PySem PySem.Spec PyProof.Rows
section
variable {σ : St} {k : Nat} {g : TG} {tt : TT} {te : TE} {H1 : Hp} {Fin : List V → Hp → Prop}
theorem comp_zip {K : PySem.W.Frag} {a b : Addr} {xs zs : List V} (Pv : Nat → List V → Hp → Prop) (h0 : Pv 0 [] H1) (hz : ∀ i ys H, i ≤ min xs.length zs.length → Pv i ys H → ys.length ≤ sizeLine ∧ SqL K H a xs ∧ SqL K H b zs)
    (hs : ∀ i x z ys H T, xs[i]? = some x → zs[i]? = some z → H T = none → Pv i ys H → g (.ref T) (List.replicate k none ++ σ) (upd H T (.tup [x, z])) fun σ2 H2 => σ2.drop k = σ ∧ tt σ2 H2 fun b H3 => if b = true then te σ2 H3 fun v H4 => Pv (i + 1) (ys ++ [v]) H4 else Pv (i + 1) ys H3)
    (hd : ∀ ys H, Pv (min xs.length zs.length) ys H → Fin ys H) : CompW (Itz K a b) σ k g tt te H1 Fin := by
  refine ⟨fun i m ys H => m = min xs.length zs.length - i ∧ i ≤ min xs.length zs.length ∧ Pv i ys H, ⟨min xs.length zs.length, by simp, Nat.zero_le _, h0⟩, ?_⟩
  rintro i m ys H ⟨rfl, hi, p⟩
  obtain ⟨q0, qa, qb⟩ := hz i ys H hi p
  refine ⟨q0, ?_⟩
  by_cases hlt : i < min xs.length zs.length
  · have h1 : i < xs.length := by omega
    have h2 : i < zs.length := by omega
    refine .inr ⟨⟨xs, zs, xs[i], zs[i], qa, qb, by simp [h1], by simp [h2]⟩, Pv (i + 1), fun ys' H' p' => ⟨min xs.length zs.length - (i + 1), by omega, rfl, hlt, p'⟩, fun x H' y => ?_⟩
    obtain ⟨T, x', z', rfl, hT, rfl, hy⟩ := y
    obtain ⟨e1, e2⟩ := hy xs zs qa qb
    exact hs i x' z' ys _ T e1 e2 hT p
  · have e : i = min xs.length zs.length := by omega
    subst e
    exact .inl ⟨⟨xs, zs, qa, qb, by omega⟩, hd ys H p⟩
end
theorem e_slL {K : PySem.W.Frag} {x : V} {lo hi : Option Int} {H : Hp} {Q : VK} : rSlL K x lo hi H Q = ∃ a xs, x = .ref a ∧ SqL K H a xs ∧ ∀ p, H p = none → Q (.ref p) (upd H p (.lst (cutV xs lo hi))) := rfl
theorem e_tSl {r : V → Option Int → Option Int → Hp → VK → Prop} {te : TE} {tl th : TO} {σ : St} {H : Hp} {Q : VK} : tSl r te tl th σ H Q = te σ H fun x H1 => tl σ H1 fun l H2 => th σ H2 fun u H3 => r x l u H3 Q := rfl
theorem e_noPart {σ : St} {H : Hp} {Q : Option Int → Hp → Prop} : tNoPart σ H Q = Q none H := rfl
theorem e_part {t : TE} {σ : St} {H : Hp} {Q : Option Int → Hp → Prop} : tPart t σ H Q = t σ H fun x H1 => ∃ i, x = .int i ∧ Q (some i) H1 := rfl
end L2

set_option Elab.async false
set_option maxRecDepth 100000
/-! More rules over the hand layer: range with a step, enumerate, min by a key, a set of ints and its size, != []. -/
namespace L2
open PySem PySem.Spec PyProof.Rows

/-! ### readings -/
section
variable {σ : St} {H : Hp} {Q : VK} {a b c : TE} {x : V} {vs : List V} {r r' : R2}
theorem e_pop : rPop x vs H Q = ∃ l xs y, x = .ref l ∧ vs = [] ∧ H l = some (.lst xs) ∧ xs[xs.length - 1]? = some y ∧ Q y (upd H l (.lst xs.dropLast)) := rfl
theorem e_BM0 {K : PySem.W.Frag} {T : String} {u : V → List V → Hp → VK → Prop} : tBM0 K T u a σ H Q = a σ H fun x H1 => tyV K T x H1 ∧ u x [] H1 Q := rfl
theorem e_chain : tChain r r' a b c σ H Q = a σ H fun x H1 => b σ H1 fun y H2 => r x y H2 fun z H3 => ∃ k, z = .bl k ∧ (if k = true then c σ H3 fun w' H4 => r' y w' H4 Q else Q (.bl false) H3) := rfl
theorem e_dnew0 : tDNewK σ H Q = ∀ p, H p = none → Q (.ref p) (upd H p (.dK [])) := rfl
theorem e_in {K : PySem.W.Frag} {neg : Bool} {y : V} : rIn K neg x y H Q = ∃ p xs, y = .ref p ∧ (SqL K H p xs ∨ SqT K H p xs) ∧ flatV x = true ∧ xs.all flatV = true ∧ Q (.bl (if neg then !inV x xs else inV x xs)) H := rfl
end

/-! ### range(a, b, c), c > 0 -/
def Its (lo st : Int) (n : Nat) : It := ⟨fun i _ => i < n, fun i H x H' => H' = H ∧ x = .int (lo + i * st), fun i _ => n ≤ i⟩
def iRng3 (ta : TA) : TI := fun σ H R => ta σ H fun vs H1 => ∃ i j k : Int, vs = [.int i, .int j, .int k] ∧ (-(2 ^ 61) ≤ i ∧ i < 2 ^ 61 ∧ -(2 ^ 61) ≤ j ∧ j < 2 ^ 61 ∧ 0 < k ∧ k < 2 ^ 30) ∧ R (Its i k (Builtin.Range.rangeSize i j k).toNat) H1
theorem e_rng3 {ta : TA} {σ : St} {H : Hp} {R : It → Hp → Prop} : iRng3 ta σ H R = ta σ H fun vs H1 => ∃ i j k : Int, vs = [.int i, .int j, .int k] ∧ (-(2 ^ 61) ≤ i ∧ i < 2 ^ 61 ∧ -(2 ^ 61) ≤ j ∧ j < 2 ^ 61 ∧ 0 < k ∧ k < 2 ^ 30) ∧ R (Its i k (Builtin.Range.rangeSize i j k).toNat) H1 := rfl
/-! ### enumerate(xs) -/
def Ite (K : PySem.W.Frag) (a : Addr) : It :=
  ⟨fun i H => ∃ xs x, SqL K H a xs ∧ xs[i]? = some x,
   fun i H v H' => ∃ T x, v = .ref T ∧ H T = none ∧ H' = upd H T (.tup [.int i, x]) ∧ ∀ xs, SqL K H a xs → xs[i]? = some x,
   fun i H => ∃ xs, SqL K H a xs ∧ xs.length ≤ i⟩
def tnEnum (e it l : Addr) (i : Nat) (h : Heap) : Prop := (∃ old, IsEnum h e it i old) ∧ h.IsListIter it l i
theorem turn_enum {P : Program} {w : World} {K : PySem.W.Frag} {elts : List Expr} {x1 : Nat} {pos : Pos} (e it l : Addr) (hne : e ≠ it) :
    Turn P w K (.Tuple elts x1 pos) (Ite K l) [e, it] e (tnEnum e it l) where
  mem := by simp
  obj := fun i h st b hb => by
    obtain ⟨⟨old, he⟩, ⟨o1, e1, c1, d1⟩⟩ := st
    simp only [List.mem_cons, List.not_mem_nil, or_false] at hb
    rcases hb with rfl | rfl
    · exact ⟨_, he, fun v q => by cases q⟩
    · exact ⟨o1, e1, fun v q => by rw [d1] at q; cases q⟩
  keep := fun i h h' st k => by
    obtain ⟨⟨old, he⟩, h1⟩ := st
    exact ⟨⟨old, k e (by simp) _ he⟩, h1.at fun o q => k it (by simp) o q⟩
  item := by
    intro X hP hw hK hc i pins s σ H E I hf st hg
    subst hP hw hK
    obtain ⟨xs, x, qa, hx⟩ := hg
    obtain ⟨us, ru, pu, zu⟩ := I.list qa
    obtain ⟨u, hu, rxu⟩ := ru.get hx
    obtain ⟨⟨old, he⟩, h1⟩ := id st
    refine wpAny_pyNext_enum_item he h1 pu.isList (x := u) (by simpa using hu) hne fun h' a1 a2 a3 a4 hk => ?_
    have ltT : ∀ {c o}, s.heap.get? c = some o → c ≠ s.heap.objs.size := fun q => Nat.ne_of_lt (Heap.lt_size q)
    have hit1 : it ≠ s.heap.objs.size := by obtain ⟨_, q, _⟩ := h1; exact ltT q
    have hTe : s.heap.objs.size ≠ e := Ne.symm (ltT he)
    refine ⟨_, rfl, wpAny_letOwnedTupleGo_enum (s := { s with heap := h', toks := s.toks + 1 }) a1 fun h'' b1 sb => ?_⟩
    have I1 : Inv X pins σ (upd H s.heap.objs.size (.tup [.int i, x])) { s with heap := h'', toks := s.toks + 1 } := I.turnedLaid (ch := [e, it]) hf (fun b o hb q => by
      simp only [List.mem_cons, List.not_mem_nil, or_false, not_or] at hb
      exact sb.extBut b o hb.1 (hk b o hb.1 hb.2 q)) (Nat.le_refl _) ⟨by show 2 ≤ sizeLine; decide, [.int i s.toks, u], .cons ⟨_, rfl⟩ (.cons rxu .nil), by
        have q := sb.extBut _ _ hTe a3
        exact ⟨_, q, rfl, _, rfl, rfl⟩⟩
    refine ⟨.ref s.heap.objs.size, _, I1, rfl, ⟨s.heap.objs.size, x, rfl, I.hok.fresh (Nat.le_refl _), rfl, fun xs' q1 => ?_⟩, ?_, fun b hb => ?_⟩
    · rw [I.list_inj q1 qa]
      exact hx
    · refine ⟨⟨u, ?_⟩, a2.extBut sb.extBut (Ne.symm hne)⟩
      have z : ((i + 1 : Nat) : Int) = (i : Int) + 1 := by omega
      rw [z]
      exact b1
    · have hb' := (hf b hb).1
      rw [upd_ne ?_]
      · exact hb'
      · simp only [List.mem_cons, List.not_mem_nil, or_false] at hb
        rcases hb with rfl | rfl
        · exact Ne.symm hTe
        · exact hit1
  done := by
    intro X hP hw hK hc i pins s σ H E I hf st hg
    subst hP hw hK
    obtain ⟨xs, qa, hend⟩ := hg
    obtain ⟨us, ru, pu, zu⟩ := I.list qa
    obtain ⟨⟨old, he⟩, h1⟩ := id st
    have l1' := ru.length
    obtain ⟨f0, f1, f2, f3, f4, f5⟩ := hf it (by simp)
    exact wpAny_pyNext_enum_end (I.ok.hd hc) he h1 pu.isList (by simp; omega) fun h' eb => ⟨rfl, I.turned (t' := s.toks) (fun b o hb q => eb b o hb q) f0 f1 f3 f4 f5⟩
  self := fun _ _ _ _ _ st h => by
    obtain ⟨⟨old, he⟩, _⟩ := st
    exact wpAny_pyIter_enum he h
def iEnum (K : PySem.W.Frag) (ta : TA) : TI := fun σ H R => ta σ H fun vs H1 => ∃ a, vs = [.ref a] ∧ (∃ xs, SqL K H1 a xs) ∧ R (Ite K a) H1
theorem e_enum {K : PySem.W.Frag} {ta : TA} {σ : St} {H : Hp} {R : It → Hp → Prop} : iEnum K ta σ H R = ta σ H fun vs H1 => ∃ a, vs = [.ref a] ∧ (∃ xs, SqL K H1 a xs) ∧ R (Ite K a) H1 := rfl
theorem pi_enumerate {X : Cx} {a : Expr} {ta : TA} {p pos tpos : Pos} {elts : List Expr} {x1 : Nat} (hg : Gl X "enumerate") (hm : X.mg "enumerate" = none) (ha : PA X [a] ta) (hs : starEach [a] X.env = [(false, eval a X.env)] := by rfl) :
    PI X (.Tuple elts x1 tpos) (.Call (.Name "enumerate" p) [a] [] pos) (iEnum X.K ta) := by
  intro pins s σ H R I h
  refine Call_ (ld_blt I hg hm bt_enumerate (PyProof.Rows.callWith_type1 (thn (ha pos pins s σ H _ I h) fun us s1 ⟨vs, H1, I1, r1, q1⟩ => ?_) hs rfl))
  obtain ⟨a, e, ⟨xs, qa⟩, q⟩ := q1
  subst e
  obtain ⟨u, rfl, ru⟩ := Vals.one r1
  cases ru
  obtain ⟨its, _, pa, _⟩ := I1.list qa
  refine call_enumerate_list pa.isList fun h' z1 z2 z3 kp => ?_
  refine wpAny_pyIter_enum (s := { s1 with heap := h' }) z1 ?_
  have I2 : Inv X pins σ H1 { s1 with heap := h' } := I1.kept (t' := s1.toks) kp
  refine ⟨s1.heap.objs.size + 1, [s1.heap.objs.size + 1, s1.heap.objs.size], _, _, H1, rfl, I2, turn_enum _ _ a (by show (_ : Nat) ≠ _; omega), ⟨⟨_, z1⟩, z2⟩, fun c hc => ?_, q⟩
  have hle : s1.heap.objs.size ≤ c := by
    simp only [List.mem_cons, List.not_mem_nil, or_false] at hc
    rcases hc with h | h <;> (rw [h]; omega)
  exact I1.fpOk hle (I1.hok.fresh hle)
theorem for_enum {K : PySem.W.Frag} {a : Addr} {xs : List V} {g : TG} {tb : TS} {D : Ends} {σ : St} {H : Hp} (Pv : Nat → St → Hp → Prop) (h0 : Pv 0 σ H) (hl : ∀ i σ H, i ≤ xs.length → Pv i σ H → SqL K H a xs)
    (hs : ∀ i x σ H T, xs[i]? = some x → H T = none → Pv i σ H → g (.ref T) σ (upd H T (.tup [.int i, x])) fun σ2 H2 => tb { D with nx := Pv (i + 1), ct := Pv (i + 1), bk := D.nx } σ2 H2)
    (hd : ∀ σ H, Pv xs.length σ H → D.nx σ H) : ForW (Ite K a) g tb D σ H := by
  refine ⟨fun i m σ H => m = xs.length - i ∧ i ≤ xs.length ∧ Pv i σ H, ⟨xs.length, by simp, Nat.zero_le _, h0⟩, ?_⟩
  rintro i m σ H ⟨rfl, hi, p⟩
  have q := hl i σ H hi p
  by_cases hlt : i < xs.length
  · refine .inr ⟨⟨xs, xs[i], q, by simp [hlt]⟩, Pv (i + 1), fun σ' H' p' => ⟨xs.length - (i + 1), by omega, rfl, hlt, p'⟩, fun x H' y => ?_⟩
    obtain ⟨T, x', rfl, hT, rfl, hy⟩ := y
    exact hs i x' σ _ T (hy xs q) hT p
  · have e : i = xs.length := by omega
    subst e
    exact .inl ⟨⟨xs, q, Nat.le_refl _⟩, hd σ H p⟩

/-! ### xs != [], xs == [] -/
section
variable {X : Cx}
end

/-! ### set(xs) of ints, its size -/
section
variable {X : Cx}
theorem call_setL (hc : X.calm = true) : CallR X (.type "set") (fun xs H Q => ∃ (a : Addr) (ns : List Int), xs = [.ref a] ∧ SqL X.K H a (ns.map V.int) ∧ ns.length + 1 < scanBound ∧
    ∀ p, H p = none → Q (.ref p) (upd H p (.set (fun k' => (firstMet (fun i => ns.getD i 0) ns.length).any (· == k')) (firstMet (fun i => ns.getD i 0) ns.length).length))) := by
  intro pins s σ H xs us Q I r h
  obtain ⟨p, ns, rfl, hq, hb, q⟩ := h
  obtain ⟨u, rfl, rx⟩ := Vals.one r
  cases rx
  obtain ⟨its, rv, pl, hz⟩ := I.list hq
  have hi : IntsAre its ns := intsAre_of rv
  have hl : its.length = ns.length := by have := rv.length; rw [List.length_map] at this; exact this.symm
  refine call_set_list (I.ok.hd hc) pl.isList hi (by rw [List.size_toArray, hl]; exact hb) fun h' tk hS hk => ?_
  rw [show its.toArray.size = ns.length by rw [List.size_toArray, hl]] at hS
  refine ⟨.ref s.heap.objs.size, _, I.laid (o := .set (fun k' => (firstMet (fun i => ns.getD i 0) ns.length).any (· == k')) (firstMet (fun i => ns.getD i 0) ns.length).length) (t' := tk) (fun b o e => hk b o (Heap.lt_size e) e) (Nat.le_refl _) hS, rfl, q _ (I.hok.fresh (Nat.le_refl _))⟩
theorem call_len_setI : CallR X (.builtin "len") (fun xs H Q => ∃ (p : Addr) (S : Int → Bool) (n : Nat), xs = [.ref p] ∧ H p = some (.set S n) ∧ Q (.int n) H) := by
  intro pins s σ H xs us Q I r h
  obtain ⟨p, S, n, rfl, hp, q⟩ := h
  obtain ⟨u, rfl, rx⟩ := Vals.one r
  cases rx
  have hS : s.heap.SetOf (intKind X.prog X.w) p S n := I.hok p _ hp
  obtain ⟨o, es, ep, t, ho, ex, hd, _, _, hz, hf, rfl⟩ := hS
  have h3 : ((es.size : Nat) : Int) < 2 ^ 63 := by unfold scanBound at hz; omega
  exact call_len_set ho ex hd hf h3 ⟨.int es.size, H, I.tok _, ⟨_, rfl⟩, q⟩
end
end L2

set_option Elab.async false
set_option maxRecDepth 100000
/-! min(xs, key=f), f a def of the text. -/
namespace L2
open PySem PySem.Spec PyProof.Rows
section
variable {X : Cx} {pins : List (Addr × Obj)} {σ : St} {H : Hp} {k : Nat} {f : Addr} {fd : FuncData} {ps : List Str} {sp : Sp}
/-- the key's call: records of ours stay -/
theorem key_call {s : Shared} {fp : List Addr} {x : V} {u : Value} {n : Int} {Q : Value → Shared → Prop} {E : Value → Shared → Prop} (F : FnOk X.prog X.w X.K X.mg X.base CX0 k f fd ps sp) (hb : Binds X.K fd ps []) (hr : Room k X.A.in1)
    (I : Inv X pins σ H s) (hf : ∀ b ∈ fp, FpOk X pins H b) (ho : ∀ b ∈ fp, ∃ o, s.heap.get? b = some o ∧ ∀ v, o.data ≠ .cell v) (rx : RelV x u)
    (h : sp [x] H (fun v H' => v = .int n ∧ H' = H) E0)
    (q : ∀ t s', Inv X pins σ H s' → (∀ b ∈ fp, ∀ o, s.heap.get? b = some o → s'.heap.get? b = some o) → Q (.int n t) s') :
    wpAny (model X.prog X.w) X.A.in1 (call (.ref f) [u]) Q E s := by
  have I1 := I.pinned hf ho
  have hl : [u].length = ps.length := F.len [x] _ _ _ h
  refine wpAny_call (codeAny_mono (F.run X.A.in1 X.stack s H ⟨[u], []⟩ [u] [x] _ E0 hr I1.env0.in1 (hb s [u] I.kIn hl) (.cons rx .nil) h) fun r s' hq => ?_)
  cases r with
  | error e => exact hq.elim
  | ok fl =>
    cases fl with
    | ret u' =>
      obtain ⟨v, H', I2, rv, e1, e2⟩ := I1.after hq
      subst e1 e2
      obtain ⟨t, rfl⟩ := rv
      refine q t s' I2.unpinned fun b hb o e => ?_
      exact (I2.pin (b, o) (List.mem_append_right _ (List.mem_append_right _ (mem_pinsAt hb e)))).1
    | next => exact False.elim hq
    | brk => exact False.elim hq
    | cont => exact False.elim hq

theorem Inv.turned1 {s : Shared} {h' : Heap} {it : Addr} {t' : Nat} (I : Inv X pins σ H s) (hf : FpOk X pins H it) (k : ∀ b o, b ≠ it → s.heap.get? b = some o → h'.get? b = some o) : Inv X pins σ H { s with heap := h', toks := t' } := by
  obtain ⟨f0, f1, f2, f3, f4, f5⟩ := hf
  exact I.turned k f0 f1 f3 f4 f5

theorem minK_loop (kf : Nat → Int) {l I0 S : Addr} {xs : List V} {R : Result → Shared → Prop} (hc : X.calm = true) (F : FnOk X.prog X.w X.K X.mg X.base CX0 k f fd ps sp) (hb : Binds X.K fd ps []) (hr : Room k X.A.in1)
    (hlI : l ≠ I0) (hlS : l ≠ S) (hSI : S ≠ I0) (hl : SqL X.K H l xs) (fS : FpOk X pins H S) (fI : FpOk X pins H I0)
    (turn : ∀ i x, xs[i]? = some x → sp [x] H (fun v H' => v = .int (kf i) ∧ H' = H) E0)
    (hR : ∀ i x u s', xs[i]? = some x → RelV x u → (∀ j, j < xs.length → kf i ≤ kf j ∧ (j < i → kf i < kf j)) → Inv X pins σ H s' → R (.ok (.ret u)) s') :
    ∀ (r j i : Nat) (s : Shared) (x : V) (vb : Value) (tb : Tok) (c : Nat), xs.length - (j + 1) = r → j + 1 ≤ xs.length → Inv X pins σ H s → s.heap.get? S = some (seqObj "list" #[vb, .int (kf i) tb] c) →
      s.heap.IsListIter I0 l (j + 1) → xs[i]? = some x → RelV x vb → i ≤ j → (∀ j', j' ≤ j → kf i ≤ kf j' ∧ (j' < i → kf i < kf j')) →
      codeAny (model X.prog X.w) X.A (.builtin "min.loop" ⟨[.ref I0, .ref f, .ref S], []⟩) R s := by
  have hname : (toString "min" ++ toString ".loop" : String) = "min.loop" := by decide
  intro r
  induction r with
  | zero =>
    intro j i s x vb tb c hr' hj I hS hit hx rx hij hbest
    have hin : j + 1 = xs.length := by omega
    obtain ⟨its, rv, pl, hz⟩ := I.list hl
    have hlen := rv.length
    have W := Walks.list (prog := X.prog) (w := X.w) (A := X.A.in1) (I.ok.hd hc) I0 l hlI its.toArray
    refine codeAny_builtin PySem.F.entry_min_loop ?_
    rw [Around.under_plainId PySem.F.plain_min_loop _]
    show wpAny _ X.A.in1 (seqItems? (.ref S) >>= _) _ _ _
    refine wpAny_bind (wpAny_seqItems hS rfl ?_)
    show wpAny _ X.A.in1 (tryCatch (pyNext (.ref I0)) _ >>= _) _ _ _
    refine wpAny_bind (wpAny_tryCatch (W.done _ _ _ ⟨by rw [List.size_toArray, ← hlen, ← hin]; exact hit, pl.isList⟩ fun h' tk' hk' => ?_))
    have I1 : Inv X pins σ H { s with heap := h', toks := tk' } := I.turned1 fI fun b o hb e => hk' b o (by simpa using hb) e
    have hS' := hk' S _ (by simpa using hSI) hS
    have s1 := Heap.SameBut.update h' S (Obj.mapSeq fun _ => (#[] : Array Value))
    show wpAny _ X.A.in1 (updateSeq S (fun _ => #[]) >>= _) _ _ _
    refine wpAny_bind ?_
    refine wpAny_updateSeq hS' rfl (wpAny_bind (wpAny_letGo (wpAny_pure ?_)))
    exact hR i x vb _ hx rx (fun j' hj' => hbest j' (by omega)) (I1.turned1 (t' := tk') fS fun b o hb e => (s1.2 b hb).trans e)
  | succ r ih =>
    intro j i s x vb tb c hr' hj I hS hit hx rx hij hbest
    have hlt : j + 1 < xs.length := by omega
    obtain ⟨its, rv, pl, hz⟩ := I.list hl
    have hlen := rv.length
    have W := Walks.list (prog := X.prog) (w := X.w) (A := X.A.in1) (I.ok.hd hc) I0 l hlI its.toArray
    refine codeAny_builtin PySem.F.entry_min_loop ?_
    rw [Around.under_plainId PySem.F.plain_min_loop _]
    show wpAny _ X.A.in1 (seqItems? (.ref S) >>= _) _ _ _
    refine wpAny_bind (wpAny_seqItems hS rfl ?_)
    show wpAny _ X.A.in1 (tryCatch (pyNext (.ref I0)) _ >>= _) _ _ _
    refine wpAny_bind (wpAny_tryCatch (W.item (j + 1) _ _ _ (by rw [List.size_toArray, ← hlen]; exact hlt) ⟨hit, pl.isList⟩ fun v h' tk' hP hst' hk' => ?_))
    have hv : its[j + 1]? = some v := by simpa using hP
    have ey : xs[j + 1]? = some xs[j + 1] := by simp [hlt]
    obtain ⟨v', hv', ry⟩ := rv.get ey
    rw [hv] at hv'
    cases hv'
    have I1 : Inv X pins σ H { s with heap := h', toks := tk' } := I.turned1 fI fun b o hb e => hk' b o (by simpa using hb) e
    have hS' := hk' S _ (by simpa using hSI) hS
    obtain ⟨oI', hoI', hoc, hod⟩ := id hst'.1
    show wpAny _ X.A.in1 (tryCatch (holding [v] (call (.ref f) [v])) _ >>= _) _ _ _
    refine wpAny_bind (wpAny_tryCatch (wpAny_holding (key_call (fp := [S, I0]) F hb hr I1 (fun b hb => ?_) (fun b hb => ?_) ry (turn (j + 1) _ ey) fun t2 s2 I2 kp => ?_)))
    · simp only [List.mem_cons, List.not_mem_nil, or_false] at hb
      rcases hb with rfl | rfl
      · exact fS
      · exact fI
    · simp only [List.mem_cons, List.not_mem_nil, or_false] at hb
      rcases hb with rfl | rfl
      · exact ⟨_, hS', fun v q => by cases q⟩
      · exact ⟨oI', hoI', fun v q => by rw [hod] at q; cases q⟩
    have nS2 := kp S (by simp) _ hS'
    have nI2 := kp I0 (by simp) _ hoI'
    have hit2 : s2.heap.IsListIter I0 l (j + 1 + 1) := ⟨oI', nI2, hoc, hod⟩
    show wpAny _ X.A.in1 (tryCatch (holding [v, .int (kf (j + 1)) t2] (richCompare .Lt (.int (kf (j + 1)) t2) (.int (kf i) tb) >>= _)) _ >>= _) _ _ _
    refine wpAny_bind (wpAny_tryCatch (wpAny_holding (wpAny_bind (CmpOf.ints_lt (prog := X.prog) (w := X.w) (A := X.A.in1) (P := fun i v => ∃ t, v = .int (kf i) t) kf (fun i v h => h) (j + 1) i _ _ _ _ _ ⟨t2, rfl⟩ ⟨tb, rfl⟩ ?_))))
    refine wpAny_bind (wpAny_holding (wpAny_truthy_bool ?_))
    refine wpAny_bind (wpAny_letGo (wpAny_pure ?_))
    by_cases hb' : kf (j + 1) < kf i
    · have s1 := Heap.SameBut.update s2.heap S (Obj.mapSeq fun _ => #[v, .int (kf (j + 1)) t2])
      obtain ⟨c2, hc2⟩ : ∃ c2, (s2.heap.update S (Obj.mapSeq fun _ => #[v, .int (kf (j + 1)) t2])).get? S = some (seqObj "list" #[v, .int (kf (j + 1)) t2] c2) := ⟨_, get?_update_seq nS2 fun _ => #[v, .int (kf (j + 1)) t2]⟩
      simp only [hb', decide_true, if_true]
      refine wpAny_bind ?_
      refine wpAny_updateSeq nS2 rfl (wpAny_bind (wpAny_letGo ?_))
      rw [hname]
      refine wpAny_pure ⟨plainId_quiet PySem.F.plain_min_loop _, ih (j + 1) (j + 1) _ _ v t2 c2 (by omega) hlt (I2.turned1 (t' := s2.toks) fS fun b o hb e => (s1.2 b hb).trans e) hc2 ⟨oI', (s1.2 I0 hSI.symm).trans nI2, hoc, hod⟩ ey ry (Nat.le_refl _) fun j' hj' => ?_⟩
      by_cases e : j' = j + 1
      · subst e
        exact ⟨by omega, fun _ => by omega⟩
      · have hb1 := hbest j' (by omega)
        have hb2 := hb1.1
        exact ⟨by omega, fun _ => by omega⟩
    · simp only [hb', decide_false, Bool.false_eq_true, if_false]
      refine wpAny_bind (wpAny_letGo ?_)
      rw [hname]
      refine wpAny_pure ⟨plainId_quiet PySem.F.plain_min_loop _, ih (j + 1) i s2 x vb tb c (by omega) hlt I2 nS2 hit2 hx rx (by omega) fun j' hj' => ?_⟩
      by_cases e : j' = j + 1
      · subst e
        exact ⟨by omega, fun _ => by omega⟩
      · exact hbest j' (by omega)

theorem minK_run (kf : Nat → Int) {s : Shared} {l : Addr} {xs : List V} {Q : VK} {E : Value → Shared → Prop} (hc : X.calm = true) (F : FnOk X.prog X.w X.K X.mg X.base CX0 k f fd ps sp) (hb : Binds X.K fd ps []) (hr : Room k X.A.in1)
    (I : Inv X pins σ H s) (hl : SqL X.K H l xs) (hne : 0 < xs.length)
    (turn : ∀ i x, xs[i]? = some x → sp [x] H (fun v H' => v = .int (kf i) ∧ H' = H) E0)
    (hQ : ∀ i x, xs[i]? = some x → (∀ j, j < xs.length → kf i ≤ kf j ∧ (j < i → kf i < kf j)) → Q x H) :
    wpAny (model X.prog X.w) X.A (call (.builtin "min") [.ref l] [(Str.ofString "key", .ref f)]) (EP X pins σ Q) E s := by
  have hname : (toString "min" ++ toString ".loop" : String) = "min.loop" := by decide
  obtain ⟨its, rv, pl, hz⟩ := I.list hl
  have hlen := rv.length
  have hls := pl.isList
  obtain ⟨ol, hol, _⟩ := id hls
  have hll : l < s.heap.objs.size := Heap.lt_size hol
  refine kmk_tree PySem.F.kind_min PySem.F.plain_min PySem.F.entry_min (kmk_min_key _ _) ?_
  show wpAny _ X.A.in1 (Builtin.Builtins.bindParams "min" ["key", "default"] 0 ⟨[], [(Str.ofString "key", .ref f)]⟩ >>= _) _ _ s
  refine wpAny_bind (wpAny_of_eq (show Builtin.Builtins.bindParams "min" ["key", "default"] 0 ⟨[], [(Str.ofString "key", .ref f)]⟩ = pure [some (.ref f), none] from rfl) ?_)
  refine wpAny_bind (wpAny_pure ?_)
  refine wpAny_bind (wpAny_pyIter_list hls ?_)
  refine wpAny_bind (wpAny_newList ?_ (Nat.zero_le _))
  rw [hname]
  generalize hP : s.heap.push { cls := .type "list_iterator", data := .fields #[.ref l, .int 0 0] } = HP
  have hS : HP.objs.size = s.heap.objs.size + 1 := by rw [← hP]; exact size_push' ..
  have hlI : l ≠ s.heap.objs.size := Nat.ne_of_lt hll
  have hSI : HP.objs.size ≠ s.heap.objs.size := by rw [hS]; exact Nat.ne_of_gt (Nat.lt_succ_self _)
  have hlS : l ≠ HP.objs.size := by rw [hS]; exact Nat.ne_of_lt (Nat.lt_succ_of_lt hll)
  refine wpAny_pure ⟨plainId_quiet PySem.F.plain_min_loop _, ?_⟩
  have old : ∀ b o, s.heap.get? b = some o → (HP.push (seqObj "list" #[] 0)).get? b = some o := fun b o e => Heap.get?_push_of_some _ (by rw [← hP]; exact Heap.get?_push_of_some _ e)
  have I0 : Inv X pins σ H { s with heap := HP.push (seqObj "list" #[] 0), toks := s.toks } := I.kept old
  have gI : (HP.push (seqObj "list" #[] 0)).get? s.heap.objs.size = some { cls := .type "list_iterator", data := .fields #[.ref l, .int 0 0] } :=
    Heap.get?_push_of_some _ (by rw [← hP]; exact Heap.get?_push_size _ rfl)
  have gS : (HP.push (seqObj "list" #[] 0)).get? HP.objs.size = some (seqObj "list" #[] 0) := Heap.get?_push_size _ rfl
  have fI : FpOk X pins H s.heap.objs.size := I.fpOk (Nat.le_refl _) (I.hok.fresh (Nat.le_refl _))
  have fS : FpOk X pins H HP.objs.size := I.fpOk (by rw [hS]; exact Nat.le_succ _) (I.hok.fresh (by rw [hS]; exact Nat.le_succ _))
  have W := Walks.list (prog := X.prog) (w := X.w) (A := X.A.in1) (I.ok.hd hc) s.heap.objs.size l hlI its.toArray
  refine codeAny_builtin PySem.F.entry_min_loop ?_
  rw [Around.under_plainId PySem.F.plain_min_loop _]
  show wpAny _ X.A.in1 (seqItems? (.ref _) >>= _) _ _ _
  refine wpAny_bind (wpAny_seqItems gS rfl ?_)
  show wpAny _ X.A.in1 (tryCatch (pyNext (.ref s.heap.objs.size)) _ >>= _) _ _ _
  have hlist : (HP.push (seqObj "list" #[] 0)).IsList l its.toArray := by
    obtain ⟨o, e, r⟩ := hls
    exact ⟨o, old l o e, r⟩
  refine wpAny_bind (wpAny_tryCatch (W.item 0 _ _ _ (by rw [List.size_toArray, ← hlen]; exact hne) ⟨⟨_, gI, rfl, rfl⟩, hlist⟩ fun v h' tk' hP' hst' hk' => ?_))
  have hv : its[0]? = some v := by simpa using hP'
  have ey : xs[0]? = some xs[0] := by simp [hne]
  obtain ⟨v', hv', ry⟩ := rv.get ey
  rw [hv] at hv'
  cases hv'
  have I1 : Inv X pins σ H { s with heap := h', toks := tk' } := I0.turned1 fI fun b o hb e => hk' b o (by simpa using hb) e
  have hS' := hk' HP.objs.size _ (by simpa using hSI) gS
  obtain ⟨oI', hoI', hoc, hod⟩ := id hst'.1
  show wpAny _ X.A.in1 (tryCatch (holding [v] (call (.ref f) [v])) _ >>= _) _ _ _
  refine wpAny_bind (wpAny_tryCatch (wpAny_holding (key_call (fp := [HP.objs.size, s.heap.objs.size]) F hb hr I1 (fun b hb => ?_) (fun b hb => ?_) ry (turn 0 _ ey) fun t2 s2 I2 kp => ?_)))
  · simp only [List.mem_cons, List.not_mem_nil, or_false] at hb
    rcases hb with rfl | rfl
    · exact fS
    · exact fI
  · simp only [List.mem_cons, List.not_mem_nil, or_false] at hb
    rcases hb with rfl | rfl
    · exact ⟨_, hS', fun v q => by cases q⟩
    · exact ⟨oI', hoI', fun v q => by rw [hod] at q; cases q⟩
  have nS2 := kp HP.objs.size (by simp) _ hS'
  have nI2 := kp s.heap.objs.size (by simp) _ hoI'
  have s1 := Heap.SameBut.update s2.heap HP.objs.size (Obj.mapSeq fun _ => #[v, .int (kf 0) t2])
  obtain ⟨c2, hc2⟩ : ∃ c2, (s2.heap.update HP.objs.size (Obj.mapSeq fun _ => #[v, .int (kf 0) t2])).get? HP.objs.size = some (seqObj "list" #[v, .int (kf 0) t2] c2) := ⟨_, get?_update_seq nS2 fun _ => #[v, .int (kf 0) t2]⟩
  show wpAny _ X.A.in1 (updateSeq HP.objs.size (fun _ => #[v, .int (kf 0) t2]) >>= _) _ _ _
  refine wpAny_bind ?_
  refine wpAny_updateSeq nS2 rfl ?_
  rw [hname]
  refine wpAny_pure ⟨plainId_quiet PySem.F.plain_min_loop _, minK_loop kf hc F hb hr hlI hlS hSI hl fS fI turn (fun i x u s' h1 h2 h3 h4 => ⟨x, H, h4, h2, hQ i x h1 h3⟩) _ 0 0 _ _ v t2 c2 rfl hne (I2.turned1 (t' := s2.toks) fS fun b o hb e => (s1.2 b hb).trans e) hc2 ⟨oI', (s1.2 _ hSI.symm).trans nI2, hoc, hod⟩ ey ry (Nat.le_refl _) fun j' hj' => ?_⟩
  have e : j' = 0 := by omega
  subst e
  exact ⟨by omega, fun _ => by omega⟩

def tMinK (K : PySem.W.Frag) (sp : Sp) (ta : TA) : TE := fun σ H Q => ta σ H fun vs H1 => ∃ (l : Addr) (xs : List V) (kf : Nat → Int), vs = [.ref l] ∧ SqL K H1 l xs ∧ 0 < xs.length ∧
  (∀ i x, xs[i]? = some x → sp [x] H1 (fun v H' => v = .int (kf i) ∧ H' = H1) E0) ∧ ∀ i x, xs[i]? = some x → (∀ j, j < xs.length → kf i ≤ kf j ∧ (j < i → kf i < kf j)) → Q x H1
theorem e_minK {K : PySem.W.Frag} {ta : TA} {Q : VK} : tMinK K sp ta σ H Q = ta σ H fun vs H1 => ∃ (l : Addr) (xs : List V) (kf : Nat → Int), vs = [.ref l] ∧ SqL K H1 l xs ∧ 0 < xs.length ∧
  (∀ i x, xs[i]? = some x → sp [x] H1 (fun v H' => v = .int (kf i) ∧ H' = H1) E0) ∧ ∀ i x, xs[i]? = some x → (∀ j, j < xs.length → kf i ≤ kf j ∧ (j < i → kf i < kf j)) → Q x H1 := rfl
theorem pe_minK {y : Str} {e : Expr} {t : TA} {p p2 pos kpos : Pos} (F : FnAt X.prog X.w X.K X.mg X.base y k ps sp) (hr : Room (k + 1) X.A) (hc : X.calm = true) (hgm : Gl X "min") (hm : X.mg "min" = none) (hg : Gl X y) (ha : PA X [e] t)
    (hdb : (y == ("__debug__" : Str)) = false := by decide)
    (he : backTo pos (starEach [e] X.env) = (false, eval e X.env) :: backTo pos (starEach [] X.env) := by rfl) (hpl : (backTo pos (starEach [e] X.env)).any (·.1) = false := by rfl) :
    PE X (.Call (.Name "min" p) [e] [⟨some (Str.ofString "key"), .Name y p2, kpos⟩] pos) (tMinK X.K sp t) := by
  intro pins s σ H Q I h
  obtain ⟨f, fd, hmy, hk, hb, G⟩ := F.ex
  refine wpAny_Call_Name_kw (ld_blt I hgm hm bt_min ?_)
  refine PyProof.Rows.callWith_kw (thn (ha pos pins s σ H _ I h) fun us s1 ⟨vs, H1, I1, r1, q1⟩ => ?_) he hpl rfl rfl
  obtain ⟨l, xs, kf, ev, hl, hne, turn, q⟩ := q1
  subst ev
  obtain ⟨u, rfl, ru⟩ := Vals.one r1
  cases ru
  refine thn ((pk_cons (nm := some (Str.ofString "key")) (kpos := kpos) (pe_glob (v := .ref f) hg hmy rfl hdb) pk_nil) pos pins s1 σ H1 (fun zs H2 => zs = [.ref f] ∧ H2 = H1) I1 ⟨rfl, rfl⟩) fun ws s2 ⟨zs, H2, I2, rz, ez, eh⟩ => ?_
  subst ez eh
  obtain ⟨w1, rfl, rw1⟩ := Vals.one rz
  cases rw1
  exact minK_run kf hc G hb hr.in1 I2 hl hne turn q
end
end L2

set_option Elab.async false
set_option maxRecDepth 100000
/-! EXCEPTIONS of own classes over the hand layer: raise, passing on through a def, a call that may raise, try with except. -/
namespace L2
open PySem PySem.Spec PyProof.Rows

/-! ### an exception that flies behind a call -/
/-- of the class at C; the abstract heap behind it is H'; what was there ahead of the call and is not tracked (frames apart) lies in B, and so does what is tracked behind it -/
def CX1 (P : Program) (w : World) : CXT := fun outer H s E e s' => ∃ (ea C : Addr) (a0 : Value) (B : Heap) (H' : Hp), e = .ref ea ∧ s'.os = s.os ∧ AllBare s'.gens ∧ Un (frs outer) [] H H' s.heap s'.heap ∧ HOk P w H' s'.heap ∧
  Heap.FlyingW B outer ea (.ref C) a0 s'.heap ∧ H' ea = none ∧ (∀ b o, H' b = some o → ∃ ob, B.get? b = some ob) ∧ (∀ b o, s.heap.get? b = some o → b ∉ frs outer → ∃ ob, B.get? b = some ob ∧ (H b = none → ob = o)) ∧ E (.ref C) none H'
theorem UpToSlots.get {h h' : Heap} (u : h.UpToSlots h') {b : Addr} {o : Obj} (e : h.get? b = some o) (n : ∀ vs, o.data ≠ .fields vs) : ∃ sl, h'.get? b = some { o with slots := sl } := u b o e n

/-- what stands behind the flight: the heap h' keeps B, and all else up to slots -/
theorem HOk.flown {P : Program} {w : World} {H : Hp} {h h' B : Heap} (x : HOk P w H h) (bh : B.StaysIn h) (bh' : B.StaysIn h') (dom : ∀ b o, H b = some o → ∃ ob, B.get? b = some ob) : HOk P w H h' := fun a o e =>
  (x a o e).stay (fun b u hb q => by
    have hB : ∃ ob, B.get? b = some ob := by
      rcases hb with rfl | hb
      · exact dom _ _ e
      · exact dom _ _ hb
    obtain ⟨ob, hob⟩ := hB
    have := bh b ob hob
    rw [q] at this
    cases this
    exact bh' b u hob) (fun _ q => q) fun _ _ q => q

/-- a tracked thing is there -/
theorem objOk_there {P : Program} {w : World} {H : Hp} {h : Heap} {a : Addr} {o : HO} (x : ObjOk P w H h a o) : ∃ ob, h.get? a = some ob := by
  cases o with
  | lst xs => obtain ⟨_, _, _, _, e⟩ := x; exact ⟨_, e⟩
  | tup xs => obtain ⟨_, _, _, o, e, _⟩ := x; exact ⟨_, e⟩
  | dK kvs => obtain ⟨_, _, _, _, o, _, _, e, _⟩ := x; exact ⟨_, e⟩
  | dT kvs => obtain ⟨_, _, _, _, o, _, _, e, _⟩ := x; exact ⟨_, e⟩
  | set S n => obtain ⟨o, _, _, _, e, _⟩ := x; exact ⟨_, e⟩
  | ins C dx fs => obtain ⟨_, _, _, e, _⟩ := x; exact ⟨_, e⟩
  | own y => exact x
  | xd fs => obtain ⟨_, ⟨_, _, _, e, _⟩, _⟩ := x; exact ⟨_, e⟩
  | rng lo hi => obtain ⟨_, _, _, e⟩ := x; exact ⟨_, e⟩
  | frz ob u => obtain ⟨e, _⟩ := x; exact ⟨_, e⟩
  | tbl ps => exact ⟨_, (show h.get? a = some _ from x)⟩
  | met f y => exact ⟨_, (show h.get? a = some _ from x)⟩
  | ext φ => obtain ⟨_, e, _⟩ := x; exact e
section
variable {X : Cx} {pins : List (Addr × Obj)} {σ : St} {H : Hp} {s : Shared}
/-- from the entry to behind the flight -/
theorem un_flown {fs : List Addr} {H0 H1 : Hp} {h0 h1 h2 B : Heap} (u : Un fs [] H0 H1 h0 h1) (dom2 : ∀ b o, h0.get? b = some o → b ∉ fs → ∃ ob, B.get? b = some ob ∧ (H0 b = none → ob = o)) 
    (bh' : B.StaysIn h2) (sl : h1.UpToSlots h2) (hfr : ∀ b ∈ fs, ∀ o, h1.get? b = some o → ∀ vs, o.data ≠ .fields vs) : Un fs [] H0 H1 h0 h2 where
  keep := fun b o e n hb _ => by
    obtain ⟨ob, e1, e2⟩ := dom2 b o e hb
    rw [e2 n] at e1
    exact bh' b o e1
  slot := fun b o e n hb hx => by
    obtain ⟨s1, e1⟩ := u.slot b o e n hb hx
    obtain ⟨s2, e2⟩ := sl b _ e1 (hfr b hb _ e1)
    exact ⟨s2, e2⟩
  free := u.free
  there := fun b o e hx => by
    by_cases hb : b ∈ fs
    · obtain ⟨o1, e1⟩ := u.there b o e hx
      obtain ⟨s2, e2⟩ := sl b _ e1 (hfr b hb _ e1)
      exact ⟨_, e2⟩
    · obtain ⟨ob, e1, _⟩ := dom2 b o e hb
      exact ⟨ob, bh' b ob e1⟩
  tups := u.tups
  frzs := u.frzs
  tbls := u.tbls

/-- an exception is made in a def's body: it leaves the frame and flies -/
theorem raise_leaves {P : Program} {w : World} {K : PySem.W.Frag} {mg : Str → Option Value} {base : Heap} {N : List Str} {qual : Str} {scope : Scope} {f : Addr} {cd : Value} {A : Around} {outer : List Env} {s0 : Shared} {H0 : Hp} {E : XK} {h' : Heap} {e C : Addr} {args : List Value}
    (hX : X = cxOf (CX1 P w) P w K mg base N qual scope f cd A outer s0 H0 E) (I : Inv X pins σ H s) (hx : Heap.MadeExcOf s.heap h' e (.ref C) args) (hE : E (.ref C) none H) (tk : Nat) : X.xe (.ref e) { s with heap := h', toks := tk } := by
  subst hX
  show wpAny _ _ (leaving _ (.ref e)) _ _ _
  have hst : s.heap.FunFrames base (envOfC qual scope s0.heap.objs.size f cd :: outer) := I.stack
  have hin : ∀ env ∈ (envOfC qual scope s0.heap.objs.size f cd :: outer), ∀ b, env.frame = some b → b ∈ (envOfC qual scope s0.heap.objs.size f cd :: outer).filterMap (·.frame) := fun env he b hb => List.mem_filterMap.mpr ⟨env, he, hb⟩
  have getB : ∀ b o, s.heap.get? b = some o → b ∉ (envOfC qual scope s0.heap.objs.size f cd :: outer).filterMap (·.frame) → (PySem.W.hideAll s.heap ((envOfC qual scope s0.heap.objs.size f cd :: outer).filterMap (·.frame))).get? b = some o := fun b o q n => PySem.W.hideAll_get _ q n
  refine wpAny_leaves_madeW (s := { s with heap := h', toks := tk }) (h := s.heap) I.ok.frames rfl (fun b o q => PySem.W.of_hideAll _ q) (PySem.W.funFrames_hide hst hin) hx fun h'' t x1 x2 x3 x4 => ?_
  have dom : ∀ b o, H b = some o → ∃ ob, (PySem.W.hideAll s.heap ((envOfC qual scope s0.heap.objs.size f cd :: outer).filterMap (·.frame))).get? b = some ob := fun b o q => by
    have hlt := I.hok.lt q
    have hnf : b ∉ (envOfC qual scope s0.heap.objs.size f cd :: outer).filterMap (·.frame) := fun z => by
      have := I.stkFree b z
      rw [q] at this; cases this
    obtain ⟨ob, hob⟩ := objOk_there (I.hok b o q)
    exact ⟨ob, getB b ob hob hnf⟩
  have un : Un (frs outer) [] H0 H s0.heap s.heap := I.base
  have dom2 : ∀ b o, s0.heap.get? b = some o → b ∉ frs outer → ∃ ob, (PySem.W.hideAll s.heap ((envOfC qual scope s0.heap.objs.size f cd :: outer).filterMap (·.frame))).get? b = some ob ∧ (H0 b = none → ob = o) := fun b o q n => by
    have hnf : b ∉ (envOfC qual scope s0.heap.objs.size f cd :: outer).filterMap (·.frame) := fun z => by
      rcases List.mem_cons.mp (I.stkSub b z) with y | y
      · have h1 : s0.heap.objs.size ≤ b := by rw [y]; exact I.ok.above
        exact absurd (Nat.lt_of_lt_of_le (Heap.lt_size q) h1) (Nat.lt_irrefl _)
      · exact n y
    obtain ⟨o1, e1⟩ := un.there b o q (by simp)
    refine ⟨o1, getB b o1 e1 hnf, fun z => ?_⟩
    have := un.keep b o q z n (by simp)
    rw [e1] at this
    exact Option.some.inj this
  have hfr : ∀ b ∈ frs outer, ∀ o, s.heap.get? b = some o → ∀ vs, o.data ≠ .fields vs := fun b hb o q => by
    obtain ⟨_, o', e', n'⟩ := hst.mem (b := b) (by
      obtain ⟨env, he, hf⟩ := List.mem_filterMap.mp hb
      exact List.mem_filterMap.mpr ⟨env, List.mem_cons_of_mem _ he, hf⟩)
    rw [q] at e'; cases e'
    exact n'
  have sl : s.heap.UpToSlots h'' := (Heap.UpToSlots.of_keeps hx.keeps).trans x4
  refine ⟨e, C, _, _, H, rfl, I.os, I.bare, un_flown un dom2 x1.1 sl hfr, HOk.flown I.hok (fun b o q => PySem.W.of_hideAll _ q) x1.1 dom, x1, ?_, dom, dom2, hE⟩
  cases q : H e with
  | none => rfl
  | some o =>
    obtain ⟨ob, hob⟩ := objOk_there (I.hok e o q)
    rw [hx.new] at hob; cases hob

/-- an exception of a callee goes on through a def's body -/
theorem passX {P : Program} {w : World} {K : PySem.W.Frag} {mg : Str → Option Value} {base : Heap} {N : List Str} {qual : Str} {scope : Scope} {f : Addr} {cd : Value} {A : Around} {outer : List Env} {s0 : Shared} {H0 : Hp} {E E1 : XK}
    (hX : X = cxOf (CX1 P w) P w K mg base N qual scope f cd A outer s0 H0 E) (hE : ∀ c H', E1 c none H' → E c none H') : Passes (CX1 P w) X E1 := by
  subst hX
  intro pins σ H s e s' I h
  obtain ⟨ea, C, a0, B, H', rfl, os, bare, un, hok, fl, hea, dom, dom2, hE1⟩ := h
  show wpAny _ _ (leaving _ (.ref ea)) _ _ _
  have hst : s'.heap.FunFrames B (envOfC qual scope s0.heap.objs.size f cd :: outer) := fl.2.2.1
  have un0 : Un (frs outer) [] H0 H s0.heap s.heap := I.base
  have sub : ∀ b ∈ frs outer, b ∈ frs (envOfC qual scope s0.heap.objs.size f cd :: outer) := fun b hb => by
    obtain ⟨env, he, hf⟩ := List.mem_filterMap.mp hb
    exact List.mem_filterMap.mpr ⟨env, List.mem_cons_of_mem _ he, hf⟩
  have notL : ∀ b o, s0.heap.get? b = some o → b ∉ frs outer → b ∉ frs (envOfC qual scope s0.heap.objs.size f cd :: outer) := fun b o q n z => by
    rcases List.mem_cons.mp (I.stkSub b z) with y | y
    · have h1 : s0.heap.objs.size ≤ b := by rw [y]; exact I.ok.above
      exact absurd (Nat.lt_of_lt_of_le (Heap.lt_size q) h1) (Nat.lt_irrefl _)
    · exact n y
  refine wpAny_leaves_onW I.ok.frames rfl fl fun h'' x1 x2 => ?_
  have ut := (un0.mono sub (fun _ z => z)).trans un
  have un1 : Un (frs outer) [] H0 H' s0.heap s'.heap := ⟨fun b o e n hb hx => ut.keep b o e n (notL b o e hb) hx, fun b o e n hb hx => ut.slot b o e n (sub b hb) hx, ut.free, ut.there, ut.tups, ut.frzs, ut.tbls⟩
  have dom2' : ∀ b o, s0.heap.get? b = some o → b ∉ frs outer → ∃ ob, B.get? b = some ob ∧ (H0 b = none → ob = o) := fun b o q n => by
    obtain ⟨o1, e1⟩ := un0.there b o q (by simp)
    obtain ⟨ob, k1, k2⟩ := dom2 b o1 e1 (notL b o q n)
    refine ⟨ob, k1, fun z => ?_⟩
    have e2 := un0.keep b o q z n (by simp)
    rw [e1] at e2
    cases e2
    exact k2 (un0.free b _ q z (by simp))
  have hfr : ∀ b ∈ frs outer, ∀ o, s'.heap.get? b = some o → ∀ vs, o.data ≠ .fields vs := fun b hb o q => by
    obtain ⟨_, o', e', n'⟩ := hst.mem (b := b) (sub b hb)
    rw [q] at e'; cases e'
    exact n'
  exact ⟨ea, C, a0, B, H', rfl, os.trans I.os, bare, un_flown un1 dom2' x1.1 x2 hfr, HOk.flown hok fl.1 x1.1 dom, x1, hea, dom, dom2', hE _ _ hE1⟩

/-! ### a thing that was there is tracked -/
theorem Inv.track {ea : Addr} {oe : Obj} {o : HO} (I : Inv X pins σ H s) (he : s.heap.get? ea = some oe) (hn : H ea = none) (new : X.s₀.heap.get? ea = none) (hL : ea ≠ X.env.locals) (hC : ∀ x c, X.env.cells.lookup x = some c → c ≠ ea) (hp : ∀ p ∈ X.pn ++ pins, p.1 ≠ ea)
    (ok : ObjOk X.prog X.w (upd H ea o) s.heap ea o) : Inv X pins σ (upd H ea o) s := by
  have ne0 : ∀ b u, H b = some u → b ≠ ea := fun b u q z => by rw [z, hn] at q; cases q
  have new' : ∀ b u, X.s₀.heap.get? b = some u → b ≠ ea := fun b u q z => by rw [z, new] at q; cases q
  refine ⟨I.ok, I.os, I.bare, ⟨I.base.keep, I.base.slot, fun b u q n hx => ?_, I.base.there, fun b xs q => ?_, fun b u v q => ?_, fun b ps q => ?_⟩, I.loc, I.cell, ?_, fun x c q => ?_, fun p h => ?_, fun b u q => ?_, I.len⟩
  · rw [upd_ne (new' b u q)]; exact I.base.free b u q n hx
  · have := I.base.tups b xs q; rw [upd_ne (ne0 b _ this)]; exact this
  · have := I.base.frzs b u v q; rw [upd_ne (ne0 b _ this)]; exact this
  · obtain ⟨m, this⟩ := I.base.tbls b ps q; exact ⟨m, by rw [upd_ne (ne0 b _ this)]; exact this⟩
  · rw [upd_ne (Ne.symm hL)]; exact I.free
  · rw [upd_ne (hC x c q)]; exact I.freeC x c q
  · obtain ⟨h1, h2, h3⟩ := I.pin p h
    exact ⟨h1, by rw [upd_ne (hp p h)]; exact h2, h3⟩
  · by_cases hb : b = ea
    · subst hb; rw [upd_same] at q; cases q; exact ok
    · rw [upd_ne hb] at q
      exact (I.hok b u q).stay (fun _ _ _ z => z) (fun c z => by rw [upd_ne (ne0 c _ z)]; exact z) fun c xs z => by rw [upd_ne (ne0 c _ z)]; exact z

/-- an exception of the class at C -/
def ExcO (ea C : Addr) : HO := .ext fun h => ∃ o, h.get? ea = some o ∧ o.cls = .ref C ∧ ∃ vs, o.data = .fields vs
/-- the context of an except suite -/
abbrev Cx.suite (X : Cx) (e : Value) : Cx := { X with A := X.A.mark (some e), calm := false, xe := fun _ _ => False }
theorem Inv.suite (I : Inv X pins σ H s) (e : Value) : Inv (X.suite e) pins σ H s :=
  ⟨⟨I.ok.mod, I.ok.kind, I.ok.glob, I.ok.blt, I.ok.above, I.ok.inj, I.ok.has, I.ok.cab, (fun z => by cases z), I.ok.frames, I.ok.stk, I.ok.exf, I.ok.bs, I.ok.bsz, I.ok.noex, I.ok.exfs, I.ok.funs, I.ok.frf⟩, I.os, I.bare, I.base, I.loc, I.cell, I.free, I.freeC, I.pin, I.hok, I.len⟩
theorem Inv.unsuite {e : Value} (I : Inv (X.suite e) pins σ H s) (hd : X.calm = true → X.A.handled = none) : Inv X pins σ H s :=
  ⟨⟨I.ok.mod, I.ok.kind, I.ok.glob, I.ok.blt, I.ok.above, I.ok.inj, I.ok.has, I.ok.cab, hd, I.ok.frames, I.ok.stk, I.ok.exf, I.ok.bs, I.ok.bsz, I.ok.noex, I.ok.exfs, I.ok.funs, I.ok.frf⟩, I.os, I.bare, I.base, I.loc, I.cell, I.free, I.freeC, I.pin, I.hok, I.len⟩
end

/-! ### own error classes, under ValueError -/
abbrev VE : List Value := [.type "ValueError", .type "Exception", .type "BaseException", .type "object"]
structure Err (K : PySem.W.Frag) (C : Addr) : Prop where
  ok : PySem.W.excIn K C VE "ValueError.__new__" = true
theorem Err.obj {K : PySem.W.Frag} {C : Addr} {h : Heap} (c : Err K C) (X : K.In h) : ∃ bm N nm q bs hdct sn sub ab col dd k0 k1 k2 k3 k5 mN, h.get? C = some (excClassObj nm q C N bs bm hdct sn sub ab col dd k0 k1 k2 k3 k5 "ValueError.__new__") ∧
    h.Ns N mN ∧ mN "__init__" = none ∧ OwnTail h VE bm ∧ ∀ v b, PySem.W.mroIn K C v = some b → (Value.ref C :: bm).contains v = b := by
  have q := c.ok
  unfold PySem.W.excIn at q
  split at q
  case h_2 => cases q
  case h_1 dd cd sl ho =>
    split at q
    case h_2 => cases q
    case h_1 C' bm k0 k1 k2 k3 n k5 hm hs =>
      simp only [Bool.and_eq_true, beq_iff_eq, Bool.not_eq_true'] at q
      have hmro : ∀ v b, PySem.W.mroIn K C v = some b → (Value.ref C' :: bm).contains v = b := fun v b e => by
        unfold PySem.W.mroIn PySem.W.clsIn at e
        rw [ho] at e
        simp only [Option.bind_some, hm, List.isEmpty_cons, Bool.false_eq_true, if_false, Option.some.injEq] at e
        exact e
      obtain ⟨⟨⟨⟨⟨e1, e2⟩, hdel⟩, ht⟩, hok⟩, hni⟩ := q
      subst e1
      subst e2
      obtain ⟨nm, bs, mro, ns, qn, hd, sn, sub, ab, col, del⟩ := cd
      have hm' : mro = Value.ref C' :: bm := hm
      have hdel' : del = false := hdel
      subst hm'
      subst hdel'
      have hsl : sl = #[k0, k1, k2, k3, some (.builtin "ValueError.__new__"), k5] := by
        cases sl with
        | mk l =>
          have hs' : l = [k0, k1, k2, k3, some (.builtin "ValueError.__new__"), k5] := hs
          rw [hs']
      subst hsl
      exact ⟨bm, ns, nm, qn, bs, hd, sn, sub, ab, col, dd, k0, k1, k2, k3, k5, _, X _ _ ho, .of_isNs (PySem.W.isNs_of_in X hok), PySem.W.nsMap_none_of_in X hok hni, PySem.W.tail_of_in X ht, hmro⟩

section
variable {M : Model} {A : Around} {E : Value → Shared → Prop}
theorem excMatches_sup {h : Heap} {g : Array GenState} {d : Drawn} {t : Nat} {os : OsState} {e C D : Addr} {oe : Obj} {Q : Bool → Shared → Prop} {b : Bool} {K : PySem.W.Frag} (X : K.In h) (cC : Err K C) (cD : Err K D) (he : h.get? e = some oe) (hcls : oe.cls = .ref C)
    (hsub : PySem.W.mroIn K C (.ref D) = some b) (hq : Q b ⟨h, g, d, t, os⟩) : wpAny M A (excMatches (.ref e) (.ref D)) Q E ⟨h, g, d, t, os⟩ := by
  obtain ⟨bm, N, nm, q, bs, hdct, sn, sub, ab, col, dd, k0, k1, k2, k3, k5, mN, hC, hN, hni, T, hm⟩ := cC.obj X
  obtain ⟨bm', N', nm', q', bs', hdct', sn', sub', ab', col', dd', k0', k1', k2', k3', k5', mN', hD, hN', hni', T', hm'⟩ := cD.obj X
  have hcB : (Value.ref D :: bm').contains (.type "BaseException") = true := by rw [List.contains_cons, T'.hasType (X := "BaseException") (b := true) (by decide +kernel), Bool.or_true]
  have hcD := hm _ _ hsub
  have f := tc_notTuple
  unfold excMatches
  repeat (first | (with_reducible refine wpAny_loadPart_at he ?_; rw [hcls]) | with_reducible refine wpAny_loadPart_at hD ?_ | (with_reducible refine wpAny_isSubtype_exc hD ?_; rw [hcB]) | (with_reducible refine wpAny_isSubtype_exc hC ?_; rw [hcD]) | wp_step)
  cases b <;> (try wp_walk) <;> exact hq
end
end L2

set_option Elab.async false
set_option maxRecDepth 100000
/-! try with one except of an own class; raise; defs that may raise, and their calls. -/
namespace L2
open PySem PySem.Spec PyProof.Rows

theorem PS.nox {X : Cx} {st : Stmt} {t : TS} (h : PS X.nox st t) : PS X st t := fun pins s σ H D I hw =>
  wpAny_mono (h pins s σ H D (I.wish _) hw) (fun _ _ z => z.unwish) fun _ _ z => z.elim

/-! ### the context of a try's body -/
/-- what is wanted of an exception there: at the call J holds of the names, its class and the abstract heap behind it -/
def tryXe (X : Cx) (pn : List (Addr × Obj)) (J : St → Value → Hp → Prop) : Value → Shared → Prop := fun e s' =>
  ∃ pins σ H s, Inv { X with pn := pn, xe := fun _ _ => False } pins σ H s ∧ CX1 X.prog X.w X.stack H s (fun c _ H' => J σ c H') e s'
abbrev tryCx (X : Cx) (pn : List (Addr × Obj)) (J : St → Value → Hp → Prop) : Cx := { X with pn := pn, xe := tryXe X pn J }
/-- calls in a context where an exception is wanted so: at the names σ -/
def Takes (X : Cx) (J : St → Value → Hp → Prop) : Prop := ∀ pins σ H s e s', Inv X pins σ H s → CX1 X.prog X.w X.stack H s (fun c _ H' => J σ c H') e s' → X.xe e s'
theorem takes_try {X : Cx} {pn : List (Addr × Obj)} {J : St → Value → Hp → Prop} : Takes (tryCx X pn J) J := fun pins σ H s e s' I h =>
  ⟨pins, σ, H, s, Inv.unwish (X := { X with pn := pn, xe := fun _ _ => False }) (E := tryXe X pn J) I, h⟩
theorem takes_body {X : Cx} {P : Program} {w : World} {K : PySem.W.Frag} {mg : Str → Option Value} {base : Heap} {N : List Str} {qual : Str} {scope : Scope} {f : Addr} {cd : Value} {A : Around} {outer : List Env} {s0 : Shared} {H0 : Hp} {E : XK}
    (hX : X = cxOf (CX1 P w) P w K mg base N qual scope f cd A outer s0 H0 E) : Takes X (fun _ c H' => E c none H') := fun pins σ H s e s' I h => by
  have q := passX (X := X) (E1 := fun c _ H' => E c none H') hX (fun _ _ z => z) pins σ H s e s' I
  subst hX
  exact q h

/-! ### a def that may raise -/
structure FnAtX (P : Program) (w : World) (K : PySem.W.Frag) (mg : Str → Option Value) (base : Heap) (name : Str) (k : Nat) (ps : List Str) (sp : Sp) : Prop where
  ex : ∃ f fd, mg name = some (.ref f) ∧ PySem.W.keepIn K (.ref f) = true ∧ Binds K fd ps [] ∧ FnOk P w K mg base (CX1 P w) k f fd ps sp
theorem FnAtX.of {P : Program} {w : World} {K : PySem.W.Frag} {mg : Str → Option Value} {base : Heap} {name : Str} {st : Stmt} {N ps : List Str} {k : Nat} {sp : Sp} (D : DefIn K mg name st ps) (S : FnScope N ps (defScope st)) (len : ∀ vs H Q E, sp vs H Q E → vs.length = ps.length)
    (hbody : ∀ (f : Addr) (cdv : Value) (A : Around) (outer : List Env) (s : Shared) (H : Hp) (vs : List V) (Q : VK) (E : XK), Room k (A.deeper (envOfC name (defScope st) s.heap.objs.size f cdv)) → sp vs H Q E →
      ∃ t, PSs (cxOf (CX1 P w) P w K mg base N name (defScope st) f cdv A outer s H E) (defBody st) t ∧ t { nx := fun _ H' => Q .non H', rt := Q } (start N vs) H) : FnAtX P w K mg base name (k + 1) ps sp := by
  obtain ⟨f, fd, hm, F, hb⟩ := D.ex
  refine ⟨f, fd, hm, F.kp, hb, ?_⟩
  obtain ⟨oc, od, kV, doc, pm, an, cdv, ct, osl, rfl, lk, hcd⟩ := F.ex
  exact fn_of lk hcd S len (hbody f cdv)

section
variable {X : Cx} {x : Str} {k : Nat} {ps : List Str} {sp : Sp} {p pos : Pos} {e : Expr} {es : List Expr} {t : TA}
/-- f(..) of a def that may raise -/
def tCallX (sp : Sp) (J : St → Value → Hp → Prop) (t : TA) : TE := fun σ H Q => t σ H fun vs H1 => sp vs H1 Q fun c _ H' => J σ c H'
theorem e_callX {J : St → Value → Hp → Prop} {σ : St} {H : Hp} {Q : VK} : tCallX sp J t σ H Q = t σ H fun vs H1 => sp vs H1 Q fun c _ H' => J σ c H' := rfl
theorem pe_callX {J : St → Value → Hp → Prop} (F : FnAtX X.prog X.w X.K X.mg X.base x k ps sp) (hr : Room k X.A) (hx : Takes X J) (hg : Gl X x) (ha : PA X (e :: es) t) (hdb : (x == ("__debug__" : Str)) = false := by decide) (he : starEach (e :: es) X.env = (false, eval e X.env) :: starEach es X.env := by rfl)
    (hpl : (backTo pos (starEach es X.env)).any (·.1) = false := by rfl) : PE X (.Call (.Name x p) (e :: es) [] pos) (tCallX sp J t) := by
  obtain ⟨f, fd, hm, hk, hb, G⟩ := F.ex
  intro pins s σ H Q I h
  refine wpAny_Call_Name_kw (ld_glob I hg hm ?_ hdb)
  refine PySem.W.callWith_K (h₀ := X.base) I.ok.mod.kin hk (thn (ha pos pins s σ H _ I h) fun us s1 ⟨vs, H1, I1, r, q⟩ => ⟨I1.kIn, ?_⟩) he hpl
  have hl : (us ++ []).length = ps.length := by rw [List.append_nil, ← r.length]; exact G.len _ _ _ _ q
  refine wpAny_call (codeAny_mono (G.run X.A X.stack s1 H1 ⟨us, []⟩ us vs Q _ hr I1.env0 (by have := hb s1 us I1.kIn hl; rw [List.append_nil] at this; exact this) r q) fun r' s' hq => ?_)
  cases r' with
  | error e => exact hx pins σ H1 s1 e s' I1 hq
  | ok fl =>
    cases fl with
    | ret u => exact I1.after hq
    | next => exact False.elim hq
    | brk => exact False.elim hq
    | cont => exact False.elim hq
end

/-! ### raise C(..) -/
section
variable {X : Cx} {C : Addr} {x : Str} {np cpos pos : Pos}
/-- what an exception of the class at C that is made here wants -/
def Raises (X : Cx) (C : Addr) (R : Hp → Prop) : Prop := ∀ pins σ H s h' e args tk, Inv X pins σ H s → Heap.MadeExcOf s.heap h' e (.ref C) args → R H → X.xe (.ref e) { s with heap := h', toks := tk }
theorem raises_body {P : Program} {w : World} {K : PySem.W.Frag} {mg : Str → Option Value} {base : Heap} {N : List Str} {qual : Str} {scope : Scope} {f : Addr} {cd : Value} {A : Around} {outer : List Env} {s0 : Shared} {H0 : Hp} {E : XK}
    (hX : X = cxOf (CX1 P w) P w K mg base N qual scope f cd A outer s0 H0 E) : Raises X C (fun H => E (.ref C) none H) := fun pins σ H s h' e args tk I hx hE => raise_leaves hX I hx hE tk
def tRaise (R : Hp → Prop) (ta : TA) : TS := fun _ σ H => ta σ H fun vs H1 => vs.length ≤ sizeLine ∧ R H1
theorem e_raise {R : Hp → Prop} {ta : TA} {D : Ends} {σ : St} {H : Hp} : tRaise R ta D σ H = ta σ H fun vs H1 => vs.length ≤ sizeLine ∧ R H1 := rfl
theorem ps_raise {e : Expr} {es : List Expr} {R : Hp → Prop} {ta : TA} (hc : X.calm = true) (c : Err X.K C) (hg : Gl X x) (hm : X.mg x = some (.ref C)) (hr : Raises X C R) (ha : PA X (e :: es) ta) (hdb : (x == ("__debug__" : Str)) = false := by decide)
    (he : starEach (e :: es) X.env = (false, eval e X.env) :: starEach es X.env := by rfl) (hpl : (backTo cpos (starEach es X.env)).any (·.1) = false := by rfl) :
    PS X (.Raise (some (.Call (.Name x np) (e :: es) [] cpos)) none pos) (tRaise R ta) := by
  intro pins s σ H D I h
  obtain ⟨bm, N, nm, q, bs, hdct, sn, sub, ab, col, dd, k0, k1, k2, k3, k5, mN, hC, hN, hni, T, _⟩ := c.obj I.ok.mod.kin
  refine wpAny_Raise_call_subU (C := C) (nm := nm) (q := q) (N := N) (bs := bs) (bm := bm) (hdct := hdct) (sn := sn) (sub := sub) (ab := ab) (col := col) (dd := dd) (k0 := k0) (k1 := k1) (k2 := k2) (k3 := k3) (k5 := k5)
    PySem.F.excBase_ValueError (by decide +kernel) PySem.F.excBase_ValueError (mN := mN) (T.hasType PySem.F.excBase_ValueError.hasBase) (I.ok.hd hc) (by rw [he]; show (false || (backTo cpos (starEach es X.env)).any (·.1)) = false; rw [hpl]; rfl) hni (ld_glob I hg hm ⟨rfl, ?_⟩ hdb)
  have hrun := ha cpos pins s σ H _ I h
  rw [he] at hrun ⊢
  refine Calls.evalArgs_plain (wpAny_mono hrun (fun us s1 h1 => ?_) fun _ _ z => z)
  obtain ⟨vs, H1, I1, r1, hz, q1⟩ := h1
  exact ⟨rfl, by rw [← r1.length]; exact hz, I1.bk _ _ hC, hN.keeps I1.bk, T.keeps I1.bk, fun h' e hx => hr pins σ H1 s1 h' e us s1.toks I1 hx q1⟩
end

/-! ### try: .. except C as n: .. -/
section
variable {X : Cx} {pins : List (Addr × Obj)} {σ : St} {H : Hp} {s : Shared}
theorem Inv.intry (I : Inv X pins σ H s) (J : St → Value → Hp → Prop) : Inv (tryCx X (X.pn ++ pins) J) [] σ H s :=
  ⟨⟨I.ok.mod, I.ok.kind, I.ok.glob, I.ok.blt, I.ok.above, I.ok.inj, I.ok.has, I.ok.cab, I.ok.hd, I.ok.frames, I.ok.stk, I.ok.exf, I.ok.bs, I.ok.bsz, I.ok.noex, I.ok.exfs, I.ok.funs, I.ok.frf⟩, I.os, I.bare, I.base, I.loc, I.cell, I.free, I.freeC, fun p hp => I.pin p (by simpa using hp), I.hok, I.len⟩
theorem Inv.outtry {pl : List (Addr × Obj)} {E : Value → Shared → Prop} (I : Inv { X with pn := X.pn ++ pins, xe := E } pl σ H s) : Inv X pins σ H s :=
  ⟨⟨I.ok.mod, I.ok.kind, I.ok.glob, I.ok.blt, I.ok.above, I.ok.inj, I.ok.has, I.ok.cab, I.ok.hd, I.ok.frames, I.ok.stk, I.ok.exf, I.ok.bs, I.ok.bsz, I.ok.noex, I.ok.exfs, I.ok.funs, I.ok.frf⟩, I.os, I.bare, I.base, I.loc, I.cell, I.free, I.freeC, fun p hp => I.pin p (List.mem_append_left _ hp), I.hok, I.len⟩
theorem SP.outtry {J : St → Value → Hp → Prop} {D : Ends} {f : Flow} {s' : Shared} (h : SP (tryCx X (X.pn ++ pins) J) [] D f s') : SP X pins D f s' := by
  cases f with
  | next => obtain ⟨a, b, I, q⟩ := h; exact ⟨a, b, I.outtry, q⟩
  | brk => obtain ⟨a, b, I, q⟩ := h; exact ⟨a, b, I.outtry, q⟩
  | cont => obtain ⟨a, b, I, q⟩ := h; exact ⟨a, b, I.outtry, q⟩
  | ret u => obtain ⟨v, a, b, I, r, q⟩ := h; exact ⟨v, a, b, I.outtry, r, q⟩

/-- the name behind an except suite goes -/
theorem unbind_ok {M : Model} {A : Around} {E : Value → Shared → Prop} {i : Nat} {n : Str} {pos : Pos} {Q : Unit → Shared → Prop} (I : Inv X pins σ H s) (hN : X.N.Nodup) (hi : X.N[i]? = some n) (hx : X.env.scope.names.lookup n = some .local)
    (h : ∀ s', Inv X pins (σ.set i none) H s' → Q () s') : wpAny M A (do bindName X.env n .none; unbindBehindTheSuite X.env n pos) Q E s := by
  refine wpAny_bind (wpAny_bindName (store_ok I hN hi (.inl hx) (v := .non) rfl (fun s1 I1 => ?_) (.inr hx)))
  obtain ⟨m, hn, hl⟩ := id I1.loc
  have hiσ : i < σ.length := by rw [I.len]; exact (List.getElem?_eq_some_iff.mp hi).1
  obtain ⟨u, ru, lk⟩ := hl i n .non hi (by rw [List.getElem?_set_self hiσ]) (.inl hx)
  have hm : ∃ u, m n = some u := by
    rcases lk with ⟨_, e⟩ | ⟨k, _⟩
    · exact ⟨u, e⟩
    · exfalso
      have hk : X.env.kindOf n = some .local := hx
      rcases k with k | k <;> (rw [hk] at k; cases k)
  obtain ⟨u', hu'⟩ := hm
  have hcls : (X.env.scope.kind == .class || (X.env.scope.kind == .module && X.env.locals != X.env.globals)) = false := by rw [I.ok.kind]; rfl
  unfold unbindBehindTheSuite
  refine wpAny_onRaise (wpAny_unbindName_local hx hn hu' hcls fun h' u2 hn' sb => ?_)
  obtain ⟨oL, _, _, hoL, _⟩ := id hn
  have J : Inv X pins (σ.set i (some .non)) H s1 := I1
  refine h _ ⟨J.ok, J.os, J.bare, ⟨fun b o e z hb hx' => ?_, fun b o e z hb hx' => ?_, J.base.free, fun b o e hx' => ?_, J.base.tups, J.base.frzs, J.base.tbls⟩, ⟨_, hn', fun j y v' e1 e2 e3 => ?_⟩, fun y c e => ?_, J.free, J.freeC, fun p hp => ?_, fun b ob e => ?_, by simpa using I.len⟩
  · exact (sb.2 b (Nat.ne_of_lt (Nat.lt_of_lt_of_le (Heap.lt_size e) J.ok.above))).trans (J.base.keep b o e z hb hx')
  · obtain ⟨sl, e1⟩ := J.base.slot b o e z hb hx'
    exact ⟨sl, (sb.2 b (Nat.ne_of_lt (Nat.lt_of_lt_of_le (Heap.lt_size e) J.ok.above))).trans e1⟩
  · obtain ⟨o', e1⟩ := J.base.there b o e hx'
    exact ⟨o', (sb.2 b (Nat.ne_of_lt (Nat.lt_of_lt_of_le (Heap.lt_size e) J.ok.above))).trans e1⟩
  · by_cases hj : j = i
    · subst hj
      rw [List.getElem?_set_self hiσ] at e2
      cases e2
    · rw [List.getElem?_set_ne (Ne.symm hj)] at e2
      obtain ⟨w', r', q⟩ := hl j y v' e1 (by rw [List.getElem?_set_ne (Ne.symm hj)]; exact e2) e3
      refine ⟨w', r', ?_⟩
      rcases q with ⟨k, e⟩ | ⟨k, c, e, z⟩
      · refine .inl ⟨k, ?_⟩
        have : y ≠ n := fun e => hj (nodup_ix hN e1 (e ▸ hi))
        simp [this, e]
      · exact .inr ⟨k, c, e, z.sameBut sb (J.cne y c e)⟩
  · obtain ⟨w', z⟩ := J.cell y c e
    exact ⟨w', z.sameBut sb (J.cne y c e)⟩
  · obtain ⟨e, z, ne, nf, d⟩ := J.pin p hp
    exact ⟨(sb.2 p.1 ne).trans e, z, ne, nf, d⟩
  · refine (J.hok b ob e).stay (fun c w' hc q => (sb.2 c ?_).trans q) (fun _ q => q) fun _ _ q => q
    rintro rfl
    rcases hc with hc | hc
    · rw [← hc, J.free] at e; cases e
    · rw [J.free] at hc; cases hc

/-- what a suite is to reach, the name gone behind it -/
def unEnds (i : Nat) (D : Ends) : Ends := { nx := fun σ H => D.nx (σ.set i none) H, rt := D.rt, bk := fun σ H => D.bk (σ.set i none) H, ct := fun σ H => D.ct (σ.set i none) H }
def tTryAs (K : PySem.W.Frag) (D0 : Addr) (i : Nat) (tb : (St → Value → Hp → Prop) → List (Addr × Obj) → TS) (ts : Value → TS) : TS := fun D σ H => ∃ J : St → Value → Hp → Prop, (∀ pn, tb J pn D σ H) ∧
  ∀ σ1 c H1, J σ1 c H1 → ∃ C, c = .ref C ∧ Err K C ∧ PySem.W.mroIn K C (.ref D0) = some true ∧ ∀ e ea, H1 ea = none → ts e (unEnds i D) (σ1.set i (some (.ref ea))) (upd H1 ea (ExcO ea C))
theorem ps_try_as {body : List Stmt} {b0 : Stmt} {suite : List Stmt} {x n : Str} {np hpos pos : Pos} {D0 : Addr} {i : Nat} {tb : (St → Value → Hp → Prop) → List (Addr × Obj) → TS} {ts : Value → TS} (cD : Err X.K D0) (hg : Gl X x) (hm : X.mg x = some (.ref D0)) (hN : X.N.Nodup) (hi : X.N[i]? = some n) (hx : X.env.scope.names.lookup n = some .local)
    (hb : ∀ J pn, PSs (tryCx X pn J) body (tb J pn)) (hs : ∀ e, PSs (X.suite e) (b0 :: suite) (ts e)) (hst : X.stack = X.env :: X.outer := by rfl) (hf : X.env.frame = some X.env.locals := by rfl) (hex : X.ex = [] := by rfl) (hdb : (x == ("__debug__" : Str)) = false := by decide) :
    PS X (.Try body [.ExceptHandler (some (.Name x np)) (some n) (b0 :: suite) hpos] [] [] pos) (tTryAs X.K D0 i tb ts) := by
  intro pins s σ H D I h
  obtain ⟨J, hbody, hcatch⟩ := h
  refine wpAny_Try_except (wpAny_mono (hb J (X.pn ++ pins) [] s σ H D (I.intry J) (hbody _)) (fun f s1 h1 => ?_) fun e s1 h1 => ?_)
  · have h2 := SP.outtry h1
    cases f with
    | next =>
      obtain ⟨a, b, I1, q⟩ := h2
      exact wpAny_execs_nil ⟨a, b, I1, q⟩
    | brk => exact h2
    | cont => exact h2
    | ret u => exact h2
  · obtain ⟨pins', σ1, H1, s2, I2, hcx⟩ := h1
    have J2 : Inv X pins σ1 H1 s2 := I2.outtry
    obtain ⟨ea, C, a0, B, H', e1, os, bare, un, hok, fl, hea, dom, dom2, hJ⟩ := hcx
    subst e1
    obtain ⟨C2, eC, cC, hsub, hsuite⟩ := hcatch σ1 _ H' hJ
    obtain rfl : C = C2 := by injection eC
    have hfr0 : X.A.frames = some (X.env :: X.outer) := by rw [← hst]; exact I.ok.frames
    have fl0 : Heap.FlyingW B (X.env :: X.outer) ea (.ref C) a0 s1.heap := by rw [← hst]; exact fl
    have hfr : ∀ b ∈ frs X.stack, ∀ o, s1.heap.get? b = some o → ∀ vs, o.data ≠ .fields vs := fun b hb o q => by
      obtain ⟨_, o', e', n'⟩ := fl.2.2.1.mem hb
      rw [q] at e'; cases e'
      exact n'
    have old_ne : ∀ b o, s2.heap.get? b = some o → b ≠ ea := fun b o q z => by
      by_cases hbf : b ∈ frs X.stack
      · obtain ⟨oe, vs, T, oT, ts', he, _, hd, _⟩ := fl.2.2.2
        rw [← z] at he
        exact hfr b hbf oe he vs hd
      · obtain ⟨ob, k1, _⟩ := dom2 b o q hbf
        rw [z, fl.2.1] at k1; cases k1
    refine wpAny_looks_onW hfr0 hf fl0 fun h4 held4 sm4 => ?_
    refine wpAny_landsW held4 fun h5 fl5 sm5 => ?_
    have at5 : ∀ {h6 : Heap} {sx : Shared}, sx.heap = h6 → sx.os = s1.os → sx.gens = s1.gens → B.StaysIn h6 → s1.heap.UpToSlots h6 → Inv X pins σ1 H' sx := fun {h6 sx} e1 e2 e3 k1 k2 => by
      subst e1
      exact J2.call' (ch := []) (e2.trans os) (un_flown un dom2 k1 k2 hfr) (HOk.flown hok fl.1 k1 dom) (by rw [e3]; exact bare) (fun b z => absurd z (by simp))
    have I5 : Inv X pins σ1 H' { s1 with heap := h5 } := at5 (sx := { s1 with heap := h5 }) rfl rfl rfl fl5.1 (sm4.trans sm5)
    obtain ⟨oe5, he5, hc5⟩ := fl5.there
    refine wpAny_handleBy_cons (codeAny_handlers_test (ld_glob (I5.suite (.ref ea)) hg hm ?_ hdb)) (by intro q; cases q)
    refine excMatches_sup I5.kIn cC cD he5 hc5 hsub ?_
    show codeAny _ _ _ _ _
    refine codeAny_handlers_suite_as ?_
    refine lands_againW fl5 fun h6 fl6 sm6 => ?_
    have I6 : Inv X pins σ1 H' { s1 with heap := h6 } := at5 (sx := { s1 with heap := h6 }) rfl rfl rfl fl6.1 ((sm4.trans sm5).trans sm6)
    have I7 : Inv X pins σ1 (upd H' ea (ExcO ea C)) { s1 with heap := h6 } := by
      obtain ⟨oe, vs, T, oT, ts', he, ⟨hcl, _⟩, hd, _⟩ := fl6.2.2.2
      refine I6.track he hea ?_ ?_ (fun y c q => ?_) (fun p hp => ?_) ?_
      · cases q : X.s₀.heap.get? ea with
        | none => rfl
        | some o =>
          obtain ⟨o', q'⟩ := J2.base.there ea o q (by rw [hex]; simp)
          exact absurd rfl (old_ne ea o' q')
      · obtain ⟨m, ⟨o, _, _, ho, _⟩, _⟩ := J2.loc
        exact Ne.symm (old_ne _ o ho)
      · obtain ⟨v, o, ho, _⟩ := J2.cell y c q
        exact old_ne c o ho
      · exact old_ne _ _ (J2.pin p hp).1
      · refine ⟨⟨oe, he, hcl, vs, hd⟩, ⟨oe, he⟩, fun h1 h2 k1 k2 => ?_⟩
        obtain ⟨o, z1, z2⟩ := k1
        exact ⟨o, k2 o z1, z2⟩
    refine store_ok (X := X.suite (.ref ea)) (I7.suite (.ref ea)) hN hi (.inl hx) (v := .ref ea) rfl (fun s8 I8 => ?_) (.inr hx)
    refine wpAny_mono (hs (.ref ea) pins s8 _ _ (unEnds i D) I8 (hsuite _ ea hea)) (fun f s9 h9 => ?_) fun _ _ z => z.elim
    show wpAny _ _ _ _ _ _
    cases f with
    | next =>
      obtain ⟨σ9, H9, I9, q9⟩ := h9
      exact unbind_ok (I9.unsuite I.ok.hd) hN hi hx fun s' I' => ⟨_, _, I', q9⟩
    | brk =>
      obtain ⟨σ9, H9, I9, q9⟩ := h9
      exact unbind_ok (I9.unsuite I.ok.hd) hN hi hx fun s' I' => ⟨_, _, I', q9⟩
    | cont =>
      obtain ⟨σ9, H9, I9, q9⟩ := h9
      exact unbind_ok (I9.unsuite I.ok.hd) hN hi hx fun s' I' => ⟨_, _, I', q9⟩
    | ret u =>
      obtain ⟨v9, σ9, H9, I9, r9, q9⟩ := h9
      exact unbind_ok (I9.unsuite I.ok.hd) hN hi hx fun s' I' => ⟨_, _, _, I', r9, q9⟩
def tTry0 (K : PySem.W.Frag) (D0 : Addr) (tb : (St → Value → Hp → Prop) → List (Addr × Obj) → TS) (ts : Value → TS) : TS := fun D σ H => ∃ J : St → Value → Hp → Prop, (∀ pn, tb J pn D σ H) ∧
  ∀ σ1 c H1, J σ1 c H1 → ∃ C, c = .ref C ∧ Err K C ∧ PySem.W.mroIn K C (.ref D0) = some true ∧ ∀ e, ts e D σ1 H1
theorem suK {e : Value} : (X.suite e).K = X.K := rfl
theorem noxK : X.nox.K = X.K := rfl
theorem tryK {pn : List (Addr × Obj)} {J : St → Value → Hp → Prop} : (tryCx X pn J).K = X.K := rfl
theorem e_tryAs {K : PySem.W.Frag} {D0 : Addr} {i : Nat} {tb : (St → Value → Hp → Prop) → List (Addr × Obj) → TS} {ts : Value → TS} {D : Ends} : tTryAs K D0 i tb ts D σ H = ∃ J : St → Value → Hp → Prop, (∀ pn, tb J pn D σ H) ∧
  ∀ σ1 c H1, J σ1 c H1 → ∃ C, c = .ref C ∧ Err K C ∧ PySem.W.mroIn K C (.ref D0) = some true ∧ ∀ e ea, H1 ea = none → ts e (unEnds i D) (σ1.set i (some (.ref ea))) (upd H1 ea (ExcO ea C)) := rfl
theorem e_try0 {K : PySem.W.Frag} {D0 : Addr} {tb : (St → Value → Hp → Prop) → List (Addr × Obj) → TS} {ts : Value → TS} {D : Ends} : tTry0 K D0 tb ts D σ H = ∃ J : St → Value → Hp → Prop, (∀ pn, tb J pn D σ H) ∧
  ∀ σ1 c H1, J σ1 c H1 → ∃ C, c = .ref C ∧ Err K C ∧ PySem.W.mroIn K C (.ref D0) = some true ∧ ∀ e, ts e D σ1 H1 := rfl
end
end L2

set_option Elab.async false
set_option maxRecDepth 100000
/-! isinstance of a caught exception of an own class. -/
namespace L2
open PySem PySem.Spec PyProof.Rows
structure ErrQ (K : PySem.W.Frag) (C : Addr) : Prop extends Err K C where
  ga : PySem.W.findIn K (.ref C) "__getattribute__" = some (some (.builtin "BaseException.__getattribute__"))
  gn : PySem.W.findIn K (.ref C) "__getattr__" = some none
  gc : PySem.W.findIn K (.ref C) "__class__" = some (some (.builtin "object.__class__"))
section
variable {prog : Program} {w : World} {A : Around} {E : Value → Shared → Prop} {h : Heap} {g : Array GenState} {d : Drawn} {t : Nat} {os : OsState} {a C : Addr} {o : Obj} {K : PySem.W.Frag}
theorem eclass_get {R : Result → Shared → Prop} (X : K.In h) (c : ErrQ K C) (hx : h.get? a = some o) (hc : o.cls = .ref C) (hq : R (.ok (.ret (.ref C))) ⟨h, g, d, t, os⟩) :
    codeAny (model prog w) A (.call (.builtin "getset_descriptor.__get__") ⟨[.builtin "object.__class__", .ref a, .ref C], []⟩) R ⟨h, g, d, t, os⟩ := by
  obtain ⟨bm, N, nm, q, bs, hdct, sn, sub, ab, col, dd, k0, k1, k2, k3, k5, mN, hC, hN, hni, T, _⟩ := c.obj X
  have hT5 : (⟨h, g, d, t, os⟩ : Shared).TypeIs (.builtin "object.__class__") "getset_descriptor" := F.typeOf_object_class
  have hcO : (Value.ref C :: bm).contains (.type (".".intercalate ("object.__class__".cutAt '.').dropLast)) = true := by rw [F.owner_object_class, List.contains_cons, T.hasType (X := "object") (b := true) (by decide +kernel), Bool.or_true]
  refine codeAny_call_builtin F.slot_gs_get.plain F.entry_gs_get (F.slot_gs_get.check _ _ _ _ _ _ _ _ hT5 (F.args_gs_get _ _ _) ?_)
  repeat (any_goals (first | assumption | (with_reducible refine wpAny_loadPart_at hx ?_; rw [hc]) | (with_reducible refine wpAny_isSubtype_exc hC ?_; rw [hcO]) | wp_step))
  refine ⟨Code.quiet_builtin _ (by decide +kernel), codeAny_builtin F.entry_object_class ?_⟩
  repeat (any_goals (first | assumption | (with_reducible refine wpAny_loadPart_at hx ?_; rw [hc]) | wp_step))
theorem eclass_entry {tk : Tok} {Q : Fin → Shared → Prop} (X : K.In h) (c : ErrQ K C) (hx : h.get? a = some o) (hc : o.cls = .ref C) (hq : Q (.done (.ret (.ref C))) ⟨h, g, d, t, os⟩) :
    wpAny (model prog w) A (Builtin.«object.__getattribute__» ⟨[.ref a, .str "__class__" tk], []⟩) Q E ⟨h, g, d, t, os⟩ := by
  have hT5 : (⟨h, g, d, t, os⟩ : Shared).TypeIs (.builtin "object.__class__") "getset_descriptor" := F.typeOf_object_class
  have L1 := PySem.W.looks_findIn (M := model prog w) X c.gc
  have f5 := F.typeOf_object_class
  have f6 := F.slot_gs_get.lookup
  have f7 := F.slot_gs_set.lookup
  repeat (any_goals (first | assumption | (with_reducible refine wpAny_loadPart_at hx ?_; rw [hc]) | with_reducible refine L1.at ?_ | wp_step))
  refine eclass_get X c hx hc ?_
  repeat (any_goals (first | assumption | wp_step))
theorem eclass_check {M : Model} {nameV : Value} {Q : Unit → Shared → Prop} (X : K.In h) (c : ErrQ K C) (hx : h.get? a = some o) (hc : o.cls = .ref C) (hq : Q () ⟨h, g, d, t, os⟩) : wpAny M A (checkBuiltinCall "BaseException.__getattribute__" ⟨[.ref a, nameV], []⟩) Q E ⟨h, g, d, t, os⟩ := by
  obtain ⟨bm, N, nm, q, bs, hdct, sn, sub, ab, col, dd, k0, k1, k2, k3, k5, mN, hC, hN, hni, T, _⟩ := c.obj X
  have hk : builtinKind "BaseException.__getattribute__" = some .slot := by decide +kernel
  have hsplit : splitId "BaseException.__getattribute__" = some ("BaseException", "__getattribute__") := by decide +kernel
  have hcB : (Value.ref C :: bm).contains (.type "BaseException") = true := by rw [List.contains_cons, T.hasType (X := "BaseException") (b := true) (by decide +kernel), Bool.or_true]
  have ha := F.args_bexc_ga (.ref a) nameV
  simp only [checkBuiltinCall, hk, hsplit]
  refine wpAny_bind ?_
  unfold isInstance
  repeat (first | (with_reducible refine wpAny_loadPart_at hx ?_; rw [hc]) | (with_reducible refine wpAny_isSubtype_exc hC ?_; rw [hcB]) | wp_step)
  exact hq
theorem eclass_call {tk : Tok} {R : Result → Shared → Prop} (X : K.In h) (c : ErrQ K C) (hx : h.get? a = some o) (hc : o.cls = .ref C) (hq : R (.ok (.ret (.ref C))) ⟨h, g, d, t, os⟩) :
    codeAny (model prog w) A (.call (.builtin "BaseException.__getattribute__") ⟨[.ref a, .str "__class__" tk], []⟩) R ⟨h, g, d, t, os⟩ :=
  codeAny_call_builtin F.attrBase_ValueError.ga.plain F.entry_bexc_ga (eclass_check X c hx hc (eclass_entry X c hx hc hq))
theorem eclass_by {tk : Tok} {Q : Value → Shared → Prop} (X : K.In h) (c : ErrQ K C) (hx : h.get? a = some o) (hc : o.cls = .ref C) (hq : Q (.ref C) ⟨h, g, d, t, os⟩) : wpAny (model prog w) A (getAttrBy (.ref a) (.str "__class__" tk) false) Q E ⟨h, g, d, t, os⟩ := by
  have f3 := F.attrBase_ValueError.ga.bind (.ref a)
  have L1 := PySem.W.looks_findIn (M := model prog w) X c.ga
  have L2' := PySem.W.looks_findIn (M := model prog w) X c.gn
  have hx2 : (Value.builtin "BaseException.__getattribute__" == Value.builtin "object.__getattribute__") = false := by decide +kernel
  have hx1 : (onTheHeap (Value.ref C) && Value.builtin "BaseException.__getattribute__" == Value.builtin "object.__getattribute__") = false := by rw [hx2]; rfl
  repeat (any_goals (first | assumption | (with_reducible refine wpAny_loadPart_at hx ?_; rw [hc]) | with_reducible refine L1.at ?_ | with_reducible refine L2'.at ?_ | wp_step))
  refine eclass_call X c hx hc ?_
  repeat (any_goals (first | assumption | wp_step))
theorem eclass_attr {Q : Option Value → Shared → Prop} (X : K.In h) (c : ErrQ K C) (hx : h.get? a = some o) (hc : o.cls = .ref C) (hq : Q (some (.ref C)) ⟨h, g, d, t + 1, os⟩) : wpAny (model prog w) A (getAttr? (.ref a) "__class__") Q E ⟨h, g, d, t, os⟩ := by
  unfold getAttr? getAttrBy?
  repeat (any_goals (first | assumption | with_reducible apply eclass_by X c hx hc | wp_step))
end

def ExcAt (a C : Addr) (h : Heap) : Prop := ∃ o, h.get? a = some o ∧ o.cls = .ref C
theorem kitx_exc {K : PySem.W.Frag} {a C : Addr} (c : ErrQ K C) : PySem.W.KitX K (.ref a) (.ref C) (ExcAt a C) where
  ty := fun M h X p => by
    obtain ⟨o, h1, h2⟩ := p
    exact h2 ▸ (PySem.W.Looks.ld h1).andThen .now
  it := fun M h X p => by
    obtain ⟨bm, N, nm, q, bs, hdct, sn, sub, ab, col, dd, k0, k1, k2, k3, k5, mN, hC, hN, hni, T, _⟩ := c.obj X
    intro A' Q' E' s' k q
    unfold isType loadHead
    exact wpAny_bind (wpAny_loadPart (k _ _ hC) (wpAny_pure q))
  ne := fun h tp dd its n sl X htp => by
    obtain ⟨bm, N, nm, q, bs, hdct, sn, sub, ab, col, dd, k0, k1, k2, k3, k5, mN, hC, hN, hni, T, _⟩ := c.obj X
    refine Bool.eq_false_iff.mpr fun q => ?_
    have e : C = tp := Value.ref.inj (beq_iff_eq.mp q)
    subst e
    rw [hC] at htp
    have hcl := congrArg Obj.cls (Option.some.inj htp)
    revert hcl
    show Value.type "type" = Value.type "tuple" → False
    intro hcl
    injection hcl with hcl
    exact absurd hcl (by decide)
  ca := fun {_ _ _ _ _ s} X p k => by
    obtain ⟨o, h1, h2⟩ := p
    obtain ⟨h, g, d, t, os⟩ := s
    exact eclass_attr X c h1 h2 k
section
variable {X : Cx} {pins : List (Addr × Obj)} {σ : St} {H : Hp} {s : Shared}
theorem Inv.exc {ea C : Addr} (I : Inv X pins σ H s) (h : H ea = some (ExcO ea C)) : ExcAt ea C s.heap := by
  have q : ObjOk X.prog X.w H s.heap ea (ExcO ea C) := I.hok ea _ h
  obtain ⟨⟨o, h1, h2, _⟩, _⟩ := q
  exact ⟨o, h1, h2⟩
/-- isinstance(e, D), D an own class -/
theorem call_isinstE : CallR X (.builtin "isinstance") (fun xs H Q => ∃ ea C D b, xs = [.ref ea, .ref D] ∧ H ea = some (ExcO ea C) ∧ ErrQ X.K C ∧ PySem.W.kitOne X.K (.ref C) (.ref D) = some b ∧ Q (.bl b) H) := by
  intro pins s σ H xs us Q I r h
  obtain ⟨ea, C, D, b, rfl, he, c, e, q⟩ := h
  obtain ⟨u, v, rfl, rx, ry⟩ := Vals.two r
  cases rx; cases ry
  exact PySem.W.kia_one (kitx_exc c) I.kIn (I.exc he) e (fun z => nomatch z) fun tk => ⟨.bl b, H, I.tok _, rfl, q⟩
/-- isinstance(e, T), T a built-in class -/
theorem call_isinstT : CallR X (.builtin "isinstance") (fun xs H Q => ∃ ea C T b, xs = [.ref ea, .ty T] ∧ H ea = some (ExcO ea C) ∧ ErrQ X.K C ∧ PySem.W.kitOne X.K (.ref C) (.type T) = some b ∧ Q (.bl b) H) := by
  intro pins s σ H xs us Q I r h
  obtain ⟨ea, C, D, b, rfl, he, c, e, q⟩ := h
  obtain ⟨u, v, rfl, rx, ry⟩ := Vals.two r
  cases rx; cases ry
  exact PySem.W.kia_one (kitx_exc c) I.kIn (I.exc he) e (fun z => nomatch z) fun tk => ⟨.bl b, H, I.tok _, rfl, q⟩
theorem vals_refs : ∀ {Ds : List Addr} {us : List Value}, Vals (Ds.map V.ref) us → us = Ds.map Value.ref
  | [], _, .nil => rfl
  | D :: Ds, _, .cons r t => by
    rw [vals_refs t]
    cases r
    rfl
/-- isinstance(e, (D, ..)), own classes -/
theorem call_isinstEs : CallR X (.builtin "isinstance") (fun xs H Q => ∃ (ea C tp : Addr) (Ds : List Addr) (b : Bool), xs = [.ref ea, .ref tp] ∧ H ea = some (ExcO ea C) ∧ ErrQ X.K C ∧ SqT X.K H tp (Ds.map V.ref) ∧ PySem.W.kitAny X.K (.ref C) (Ds.map Value.ref) = some b ∧ Q (.bl b) H) := by
  intro pins s σ H xs us Q I r h
  obtain ⟨ea, C, tp, Ds, b, rfl, he, c, ht, e, q⟩ := h
  obtain ⟨u, v, rfl, rx, ry⟩ := Vals.two r
  cases rx; cases ry
  obtain ⟨its, rv, ⟨o, ho, hc, n, hd⟩, hz⟩ := I.tuple ht
  have ei := vals_refs rv
  subst ei
  obtain ⟨ocls, odict, odata, oslots⟩ := o
  dsimp only at hc hd
  subst hc hd
  exact PySem.W.kia_tup (kitx_exc c) I.kIn (I.exc he) ho e (fun z => nomatch z) fun tk => ⟨.bl b, H, I.tok _, rfl, q⟩
end

/-! ### the class facts, from the text -/
theorem bt_ValueError : bootBuiltins "ValueError" = some (.type "ValueError") := by decide +kernel
theorem err_mk {K : PySem.W.Frag} {h : Heap} {mg : Str → Option Value} (X : K.In h) (G : h.Ns mainGlobals mg) {name : Str} {C : Addr} (e : PySem.W.nsIn K mainGlobals name = some (some (.ref C))) (q : PySem.W.excIn K C VE "ValueError.__new__" = true)
    (g1 : PySem.W.findIn K (.ref C) "__getattribute__" = some (some (.builtin "BaseException.__getattribute__"))) (g2 : PySem.W.findIn K (.ref C) "__getattr__" = some none) (g3 : PySem.W.findIn K (.ref C) "__class__" = some (some (.builtin "object.__class__"))) :
    mg name = some (.ref C) ∧ ErrQ K C := ⟨PySem.W.mg_of X G e, ⟨⟨q⟩, g1, g2, g3⟩⟩
theorem kit_self {K : PySem.W.Frag} {C : Addr} : PySem.W.kitOne K (.ref C) (.ref C) = some true := by
  unfold PySem.W.kitOne
  rw [if_pos (by simp)]
theorem kit_mk {K : PySem.W.Frag} {C D : Addr} {cd : ClassData} {b : Bool} (h0 : (Value.ref C == Value.ref D) = false) (h1 : PySem.W.clsIn K D = some cd) (h2 : PySem.W.typeIn K (.ref D) = some (.type "type")) (h3 : PySem.W.subIn K (.ref C) (.ref D) = some b) : PySem.W.kitOne K (.ref C) (.ref D) = some b := by
  unfold PySem.W.kitOne PySem.W.kitCls
  rw [if_neg (by rw [h0]; simp)]
  show (if ((PySem.W.clsIn K D).isSome && PySem.W.typeIn K (.ref D) == some (.type "type")) = true then PySem.W.subIn K (.ref C) (.ref D) else none) = some b
  rw [h1, h2, if_pos (by simp)]
  exact h3
theorem kitV_mk {K : PySem.W.Frag} {C : Addr} {b : Bool} (h3 : PySem.W.subIn K (.ref C) (.type "ValueError") = some b) : PySem.W.kitOne K (.ref C) (.type "ValueError") = some b := by
  unfold PySem.W.kitOne PySem.W.kitCls
  rw [if_neg (by simp)]
  show (if PySem.W.kitMeta "ValueError" = true then PySem.W.subIn K (.ref C) (.type "ValueError") else none) = some b
  rw [if_pos (by decide +kernel)]
  exact h3
def NoneOf (K : PySem.W.Frag) (C : Addr) : List Addr → Prop
  | [] => True
  | D :: Ds => PySem.W.kitOne K (.ref C) (.ref D) = some false ∧ NoneOf K C Ds
theorem kitAny_none {K : PySem.W.Frag} {C : Addr} : ∀ {Ds : List Addr}, NoneOf K C Ds → PySem.W.kitAny K (.ref C) (Ds.map Value.ref) = some false
  | [], _ => rfl
  | D :: Ds, h => by
    show PySem.W.kitAny K (.ref C) (Value.ref D :: Ds.map Value.ref) = some false
    unfold PySem.W.kitAny
    rw [h.1]
    exact kitAny_none h.2
theorem Same.seqT {K : PySem.W.Frag} {H H' : Hp} {a : Addr} {xs : List V} (e : Same H H') (h : SqT K H a xs) : SqT K H' a xs := by
  rcases h with (h | ⟨o, h⟩) | h
  · exact .inl (.inl (e _ _ h))
  · exact .inl (.inr ⟨o, e _ _ h⟩)
  · exact .inr h
end L2

set_option Elab.async false
set_option maxRecDepth 100000
/-! Trees: nested lists and tuples of flat things; == and != of them, in. -/
namespace L2
open PySem PySem.Spec PyProof.Rows
inductive Tr where
  | lf (v : V) | ls (ts : List Tr) | tp (ts : List Tr)
mutual
def TrAt (K : PySem.W.Frag) (H : Hp) : Tr → V → Prop
  | .lf v, x => x = v ∧ flatV v = true
  | .ls ts, x => ∃ a xs, x = .ref a ∧ SqL K H a xs ∧ TrsAt K H ts xs
  | .tp ts, x => ∃ a xs, x = .ref a ∧ SqT K H a xs ∧ TrsAt K H ts xs
def TrsAt (K : PySem.W.Frag) (H : Hp) : List Tr → List V → Prop
  | [], xs => xs = []
  | t :: ts, xs => ∃ y ys, xs = y :: ys ∧ TrAt K H t y ∧ TrsAt K H ts ys
end
mutual
def eqTr : Tr → Tr → Bool
  | .lf v, .lf w => eqV v w
  | .ls ts, .ls us => eqTrs ts us
  | .tp ts, .tp us => eqTrs ts us
  | _, _ => false
def eqTrs : List Tr → List Tr → Bool
  | [], [] => true
  | t :: ts, u :: us => eqTr t u && eqTrs ts us
  | _, _ => false
end
mutual
def deep : Tr → Nat
  | .lf _ => 0
  | .ls ts => deeps ts + 1
  | .tp ts => deeps ts + 1
def deeps : List Tr → Nat
  | [] => 0
  | t :: ts => max (deep t) (deeps ts)
end
theorem TrsAt.len {K : PySem.W.Frag} {H : Hp} : ∀ {ts : List Tr} {xs : List V}, TrsAt K H ts xs → ts.length = xs.length
  | [], xs, h => by rw [TrsAt] at h; rw [h]; rfl
  | t :: ts, xs, h => by
    rw [TrsAt] at h
    obtain ⟨y, ys, rfl, _, h⟩ := h
    simp [TrsAt.len h]
theorem TrsAt.get {K : PySem.W.Frag} {H : Hp} : ∀ {ts : List Tr} {xs : List V} {j : Nat} {x : V}, TrsAt K H ts xs → xs[j]? = some x → ∃ t, ts[j]? = some t ∧ TrAt K H t x
  | [], xs, j, x, h, e => by rw [TrsAt] at h; subst h; simp at e
  | t :: ts, xs, 0, x, h, e => by
    rw [TrsAt] at h
    obtain ⟨y, ys, rfl, h1, h⟩ := h
    cases e
    exact ⟨t, rfl, h1⟩
  | t :: ts, xs, j + 1, x, h, e => by
    rw [TrsAt] at h
    obtain ⟨y, ys, rfl, h1, h⟩ := h
    exact TrsAt.get (ts := ts) (j := j) h e
theorem TrsAt.of {K : PySem.W.Frag} {H : Hp} : ∀ {ts : List Tr} {xs : List V}, ts.length = xs.length → (∀ (j : Nat) (t : Tr) (x : V), ts[j]? = some t → xs[j]? = some x → TrAt K H t x) → TrsAt K H ts xs
  | [], [], _, _ => by rw [TrsAt]
  | t :: ts, x :: xs, hl, h => by
    rw [TrsAt]
    exact ⟨x, xs, rfl, h 0 t x rfl rfl, TrsAt.of (by simpa using hl) fun j t x e1 e2 => h (j + 1) t x e1 e2⟩
section
variable {X : Cx} {pins : List (Addr × Obj)} {σ : St} {H : Hp} {s : Shared}
end
section
variable {X : Cx}
/-- two lists, or two tuples -/
def SameK : Tr → Tr → Prop
  | .ls _, .ls _ => True
  | .tp _, .tp _ => True
  | _, _ => False
theorem SameK.of {t t' : Tr} (h : SameK t t') : (∃ ts us, t = .ls ts ∧ t' = .ls us) ∨ ∃ ts us, t = .tp ts ∧ t' = .tp us := by
  cases t <;> cases t' <;> first | exact .inl ⟨_, _, rfl, rfl⟩ | exact .inr ⟨_, _, rfl, rfl⟩ | exact h.elim
/-- == of lists, and of tuples, nested at most n deep -/
def rEqD (K : PySem.W.Frag) (n : Nat) (neg : Bool) (x y : V) (H : Hp) (Q : VK) : Prop := ∃ t t', SameK t t' ∧ TrAt K H t x ∧ TrAt K H t' y ∧ deep t ≤ n ∧ deep t' ≤ n ∧ Q (.bl (neg ^^ eqTr t t')) H
end
/-! ### when == is = -/
/-! ### in -/
section
variable {X : Cx} {pins : List (Addr × Obj)} {σ : St} {H : Hp} {s : Shared}
open Classical in
end
section
variable {X : Cx}
def inTr (t : Tr) (ts : List Tr) : Bool := ts.any fun u => eqTr u t
def rInD (K : PySem.W.Frag) (n : Nat) (neg : Bool) : R2 := fun x y H Q => ∃ p xs ts t, y = .ref p ∧ (SqL K H p xs ∨ SqT K H p xs) ∧ TrsAt K H ts xs ∧ TrAt K H t x ∧ deep t ≤ n ∧ deeps ts ≤ n ∧ Q (.bl (neg ^^ inTr t ts)) H
end
/-! ### making trees -/
mutual
theorem TrAt.mono {K : PySem.W.Frag} {H H' : Hp} (S : Same H H') : ∀ {t : Tr} {x : V}, TrAt K H t x → TrAt K H' t x
  | .lf v, x, h => by rw [TrAt] at h ⊢; exact h
  | .ls ts, x, h => by
    rw [TrAt] at h ⊢
    obtain ⟨a, xs, e, sq, h⟩ := h
    exact ⟨a, xs, e, S.seq sq, TrsAt.mono S h⟩
  | .tp ts, x, h => by
    rw [TrAt] at h ⊢
    obtain ⟨a, xs, e, sq, h⟩ := h
    exact ⟨a, xs, e, Same.seqT S sq, TrsAt.mono S h⟩
theorem TrsAt.mono {K : PySem.W.Frag} {H H' : Hp} (S : Same H H') : ∀ {ts : List Tr} {xs : List V}, TrsAt K H ts xs → TrsAt K H' ts xs
  | [], xs, h => by rw [TrsAt] at h ⊢; exact h
  | t :: ts, xs, h => by
    rw [TrsAt] at h ⊢
    obtain ⟨y, ys, e, h1, h2⟩ := h
    exact ⟨y, ys, e, TrAt.mono S h1, TrsAt.mono S h2⟩
end
theorem TrAt.lf {K : PySem.W.Frag} {H : Hp} {v : V} (f : flatV v = true) : TrAt K H (.lf v) v := by rw [TrAt]; exact ⟨rfl, f⟩
theorem TrAt.ls {K : PySem.W.Frag} {H : Hp} {a : Addr} {xs : List V} {ts : List Tr} (h : SqL K H a xs) (q : TrsAt K H ts xs) : TrAt K H (.ls ts) (.ref a) := by rw [TrAt]; exact ⟨a, xs, rfl, h, q⟩
theorem TrAt.tp {K : PySem.W.Frag} {H : Hp} {a : Addr} {xs : List V} {ts : List Tr} (h : SqT K H a xs) (q : TrsAt K H ts xs) : TrAt K H (.tp ts) (.ref a) := by rw [TrAt]; exact ⟨a, xs, rfl, h, q⟩
theorem TrsAt.nil {K : PySem.W.Frag} {H : Hp} : TrsAt K H [] [] := by rw [TrsAt]
theorem TrsAt.cons {K : PySem.W.Frag} {H : Hp} {t : Tr} {ts : List Tr} {x : V} {xs : List V} (h : TrAt K H t x) (q : TrsAt K H ts xs) : TrsAt K H (t :: ts) (x :: xs) := by rw [TrsAt]; exact ⟨x, xs, rfl, h, q⟩
theorem TrsAt.flat {K : PySem.W.Frag} {H : Hp} : ∀ {xs : List V}, xs.all flatV = true → TrsAt K H (xs.map Tr.lf) xs
  | [], _ => TrsAt.nil
  | x :: xs, f => by
    rw [List.all_cons, Bool.and_eq_true] at f
    exact TrsAt.cons (TrAt.lf f.1) (TrsAt.flat f.2)
theorem TrsAt.append {K : PySem.W.Frag} {H : Hp} : ∀ {ts us : List Tr} {xs ys : List V}, TrsAt K H ts xs → TrsAt K H us ys → TrsAt K H (ts ++ us) (xs ++ ys)
  | [], us, xs, ys, h, q => by rw [TrsAt] at h; subst h; exact q
  | t :: ts, us, xs, ys, h, q => by
    rw [TrsAt] at h
    obtain ⟨y, zs, rfl, h1, h2⟩ := h
    exact TrsAt.cons h1 (TrsAt.append h2 q)
theorem e_eqD {K : PySem.W.Frag} {n : Nat} {neg : Bool} {x y : V} {H : Hp} {Q : VK} : rEqD K n neg x y H Q = ∃ t t', SameK t t' ∧ TrAt K H t x ∧ TrAt K H t' y ∧ deep t ≤ n ∧ deep t' ≤ n ∧ Q (.bl (neg ^^ eqTr t t')) H := rfl
theorem e_inD {K : PySem.W.Frag} {n : Nat} {neg : Bool} {x y : V} {H : Hp} {Q : VK} : rInD K n neg x y H Q = ∃ p xs ts t, y = .ref p ∧ (SqL K H p xs ∨ SqT K H p xs) ∧ TrsAt K H ts xs ∧ TrAt K H t x ∧ deep t ≤ n ∧ deeps ts ≤ n ∧ Q (.bl (neg ^^ inTr t ts)) H := rfl
end L2

set_option Elab.async false
set_option maxRecDepth 100000
/-! Strings: the walk through one, str * int. -/
namespace L2
open PySem PySem.Spec PyProof.Rows
/-- the signs of a str, one by one -/
def chr1 (c : Nat) : Str := ⟨#[c]⟩
def Itw (x : Str) : It := ⟨fun i _ => i < x.cps.size, fun i H v H' => H' = H ∧ ∃ c, x.cps[i]? = some c ∧ v = .str (chr1 c), fun i _ => x.cps.size ≤ i⟩
def iStr (a : TE) : TI := fun σ H R => a σ H fun x H1 => ∃ z, x = .str z ∧ R (Itw z) H1
theorem e_iStr {a : TE} {σ : St} {H : Hp} {R : It → Hp → Prop} : iStr a σ H R = a σ H fun x H1 => ∃ z, x = .str z ∧ R (Itw z) H1 := rfl
/-! ### str * int -/
def strMul (z : Str) (n : Nat) : Str := ⟨(List.replicate n z.cps.toList).flatten.toArray⟩
section
variable {X : Cx}
def rMulS : R2 := fun x y H Q => ∃ z n, x = .str z ∧ y = .int n ∧ -(2 ^ 62) ≤ n ∧ n < 2 ^ 31 ∧ z.length * n.toNat ≤ 2 ^ 20 ∧ Q (.str (strMul z n.toNat)) H
theorem e_mulS {x y : V} {H : Hp} {Q : VK} : rMulS x y H Q = ∃ z n, x = .str z ∧ y = .int n ∧ -(2 ^ 62) ≤ n ∧ n < 2 ^ 31 ∧ z.length * n.toNat ≤ 2 ^ 20 ∧ Q (.str (strMul z n.toNat)) H := rfl
end

theorem e_ixS {x y : V} {H : Hp} {Q : VK} : rIxS x y H Q = ∃ z i c, x = .str z ∧ y = .int i ∧ z.length ≤ sizeLine ∧ atI z.cps.toList i = some c ∧ Q (.str ⟨#[c]⟩) H := rfl
theorem e_rev {x : V} {vs : List V} {H : Hp} {Q : VK} : rReverse x vs H Q = ∃ l xs, x = .ref l ∧ vs = [] ∧ H l = some (.lst xs) ∧ Q .non (upd H l (.lst xs.reverse)) := rfl
theorem e_clear {x : V} {vs : List V} {H : Hp} {Q : VK} : rClear x vs H Q = ∃ l xs, x = .ref l ∧ vs = [] ∧ H l = some (.lst xs) ∧ Q .non (upd H l (.lst [])) := rfl
theorem e_popAt {x : V} {vs : List V} {H : Hp} {Q : VK} : rPopAt x vs H Q = ∃ l xs i k y, x = .ref l ∧ vs = [.int i] ∧ H l = some (.lst xs) ∧ -(2 ^ 63) ≤ i ∧ i < 2 ^ 63 ∧ seqIndex? i xs.length = some k ∧ xs[k]? = some y ∧ Q y (upd H l (.lst (xs.eraseIdx k))) := rfl
theorem e_iT {K : PySem.W.Frag} {a : TE} {σ : St} {H : Hp} {R : It → Hp → Prop} : iTup K a σ H R = a σ H fun x H1 => ∃ p, x = .ref p ∧ (∃ xs, SqT K H1 p xs) ∧ R (Itt K p) H1 := rfl
/-! ### sep.join(texts) -/
section
variable {X : Cx}
def rJoin (K : PySem.W.Frag) : V → List V → Hp → VK → Prop := fun x vs H Q => ∃ sep b texts, x = .str sep ∧ vs = [.ref b] ∧ SqL K H b (texts.map V.str) ∧ JoinOk sep texts = true ∧ Q (.str (Txt.join sep texts)) H
theorem e_join {K : PySem.W.Frag} {x : V} {vs : List V} {H : Hp} {Q : VK} : rJoin K x vs H Q = ∃ sep b texts, x = .str sep ∧ vs = [.ref b] ∧ SqL K H b (texts.map V.str) ∧ JoinOk sep texts = true ∧ Q (.str (Txt.join sep texts)) H := rfl
end
section
variable {σ : St} {k : Nat} {g : TG} {tt : TT} {te : TE} {H1 : Hp} {Fin : List V → Hp → Prop}
end
theorem star_of {e : Expr} {es : List Expr} {env : Env} (h : ∀ e' p, e ≠ .Starred e' p) : starEach (e :: es) env = (false, eval e env) :: starEach es env := by
  cases e <;> first | rfl | exact absurd rfl (h _ _)
/-! ### a list or a tuple, walked -/
def iSeq (K : PySem.W.Frag) (tl : TE) : TI := fun σ H R => tl σ H fun x H1 => ∃ a, x = .ref a ∧ (((∃ xs, SqL K H1 a xs) ∧ R (Itl K a) H1) ∨ ((∃ xs, SqT K H1 a xs) ∧ R (Itt K a) H1))
theorem e_iSeq {K : PySem.W.Frag} {tl : TE} {σ : St} {H : Hp} {R : It → Hp → Prop} : iSeq K tl σ H R = tl σ H fun x H1 => ∃ a, x = .ref a ∧ (((∃ xs, SqL K H1 a xs) ∧ R (Itl K a) H1) ∨ ((∃ xs, SqT K H1 a xs) ∧ R (Itt K a) H1)) := rfl
/-! ### tuple(list) -/
section
variable {X : Cx}
def rTupL (K : PySem.W.Frag) : List V → Hp → VK → Prop := fun xs H Q => ∃ p ys, xs = [.ref p] ∧ SqL K H p ys ∧ ∀ l, H l = none → Q (.ref l) (upd H l (.tup ys))
theorem e_tupL {K : PySem.W.Frag} {xs : List V} {H : Hp} {Q : VK} : rTupL K xs H Q = ∃ p ys, xs = [.ref p] ∧ SqL K H p ys ∧ ∀ l, H l = none → Q (.ref l) (upd H l (.tup ys)) := rfl
end
theorem e_disp {trs : List (TE × TE)} {σ : St} {H : Hp} {Q : VK} : tDisp trs σ H Q = ∀ p, H p = none → tPairs trs σ (upd H p (.dK [])) fun ps H2 => H2 p = some (.dK []) ∧ ∃ kvs : List (Key × V), ps = kvs.map (fun kv => (kV kv.1, kv.2)) ∧ kvs.length ≤ 15 ∧ Q (.ref p) (upd H2 p (.dK (mergeK [] kvs))) := rfl
theorem e_pairs0 {σ : St} {H : Hp} {Q : List (V × V) → Hp → Prop} : tPairs [] σ H Q = Q [] H := rfl
theorem e_pairs {tk tv : TE} {r : List (TE × TE)} {σ : St} {H : Hp} {Q : List (V × V) → Hp → Prop} : tPairs ((tk, tv) :: r) σ H Q = tk σ H fun x H1 => tv σ H1 fun y H2 => tPairs r σ H2 fun ps H3 => Q ((x, y) :: ps) H3 := rfl
/-! ### joined signs -/
end L2

set_option Elab.async false
set_option maxRecDepth 100000
/-! min and max of a list of whole numbers. -/
namespace L2
open PySem PySem.Spec PyProof.Rows
section
variable {X : Cx}
def rMinL (K : PySem.W.Frag) (xs : List V) (H : Hp) (Q : VK) : Prop := ∃ (p : Addr) (ns : List Int), xs = [.ref p] ∧ SqL K H p (ns.map V.int) ∧ 0 < ns.length ∧ ∀ m, m ∈ ns → (∀ a ∈ ns, m ≤ a) → Q (.int m) H
def rMaxL (K : PySem.W.Frag) (xs : List V) (H : Hp) (Q : VK) : Prop := ∃ (p : Addr) (ns : List Int), xs = [.ref p] ∧ SqL K H p (ns.map V.int) ∧ 0 < ns.length ∧ ∀ m, m ∈ ns → (∀ a ∈ ns, a ≤ m) → Q (.int m) H
theorem e_minL {K : PySem.W.Frag} {xs : List V} {H : Hp} {Q : VK} : rMinL K xs H Q = ∃ (p : Addr) (ns : List Int), xs = [.ref p] ∧ SqL K H p (ns.map V.int) ∧ 0 < ns.length ∧ ∀ m, m ∈ ns → (∀ a ∈ ns, m ≤ a) → Q (.int m) H := rfl
theorem e_maxL {K : PySem.W.Frag} {xs : List V} {H : Hp} {Q : VK} : rMaxL K xs H Q = ∃ (p : Addr) (ns : List Int), xs = [.ref p] ∧ SqL K H p (ns.map V.int) ∧ 0 < ns.length ∧ ∀ m, m ∈ ns → (∀ a ∈ ns, a ≤ m) → Q (.int m) H := rfl
theorem call_minL (hc : X.calm = true) : CallR X (.builtin "min") (rMinL X.K) := by
  intro pins s σ H xs us Q I r h
  obtain ⟨p, ns, rfl, hq, hne, q⟩ := h
  obtain ⟨u, rfl, rx⟩ := Vals.one r
  cases rx
  obtain ⟨its, rv, pl, hz⟩ := I.list hq
  have hi : IntsAre its ns := intsAre_of rv
  obtain ⟨zs, hx⟩ := hi.allInts.items
  have hl' : s.heap.IsList p (intItems zs) := hx ▸ pl.isList
  have hns : ns = zs.toList.map (·.1) := by
    rw [← nums_intItems, ← hx]
    exact (show numsOf its.toArray.toList = ns from hi.numsOf).symm
  have hsz : 0 < zs.size := by
    have h3 := hne; rw [hns, List.length_map, Array.length_toList] at h3; exact h3
  refine min_intList (I.ok.hd hc) hl' hsz fun v h' tk hv hk => ?_
  obtain ⟨t, rfl⟩ := intItems_at hv
  obtain ⟨h1, h2⟩ := argBest_lt (numAt zs) (zs.size - 1)
  refine ⟨V.int _, H, I.kept hk, ⟨_, rfl⟩, q _ ?_ fun a ha => ?_⟩
  · rw [hns, numAt_eq]; exact getD_mem (by rw [List.length_map, Array.length_toList]; omega)
  · rw [hns] at ha
    obtain ⟨j, hj, rfl⟩ := mem_getD ha
    rw [List.length_map, Array.length_toList] at hj
    rw [← numAt_eq]; exact h2 j (by omega)
end
end L2

set_option Elab.async false
set_option maxRecDepth 100000
/-! list(reversed(xs)), list(range(n)). -/
namespace L2
open PySem PySem.Spec PyProof.Rows
theorem lri_no_len : typeLookup (.type "list_reverseiterator") "__len__" = pure none := by rw [typeLookup_type, builtinLookup_eq_fast]; kernel_rfl
theorem lri_hint : typeLookup (.type "list_reverseiterator") "__length_hint__" = pure (some (.builtin "list_reverseiterator.__length_hint__")) := by rw [typeLookup_type, builtinLookup_eq_fast]; kernel_rfl
section
variable {prog : Program} {w : World} {A : Around} {E : Value → Shared → Prop} {s : Shared}
theorem hint_rev {r : Addr} {Q : Bool → Shared → Prop} (hT : s.TypeIs (.ref r) "list_reverseiterator") (h : Q false s) : wpAny (model prog w) A (Builtin.List.listLengthHint (.ref r)) Q E s := by
  unfold Builtin.List.listLengthHint
  refine wpAny_bind (wpAny_specialOf hT lri_no_len ?_)
  show wpAny _ A (specialOf (Value.ref r) (Str.ofString "__length_hint__") >>= _) _ _ _
  refine wpAny_bind (wpAny_specialOf hT lri_hint ?_)
  generalize hid : ("list_reverseiterator.__length_hint__" : String) = id0
  wp_delta
  rw [show splitId id0 = some ("list_reverseiterator", "__length_hint__") from by subst hid; decide +kernel]
  subst hid
  refine wpAny_bind (wpAny_isInstance (T := "list_reverseiterator") (b := true) hT (by rw [isSubtype_type]; kernel_rfl) ?_)
  refine wpAny_ite_split (fun hab => absurd hab (by decide)) (fun _ => ?_)
  refine wpAny_ite_split (fun _ => ?_) (fun hab => absurd (by decide +kernel) hab)
  refine wpAny_ite_split (fun hab => absurd hab (by decide +kernel)) (fun _ => ?_)
  exact wpAny_pure h

theorem extend_rev {R : Result → Shared → Prop} {I l S : Addr} {items : Array Value} (hh : A.handled = none) (hit : s.heap.IsRevIter I l ((items.size : Int) - 1)) (hl : s.heap.IsList l items) (hne : l ≠ I) (hSI : S ≠ I) (hSl : S ≠ l) (hn : items.size ≤ sizeLine) (res : Value) (c₀ : Nat)
    (hS : s.heap.get? S = some { cls := .type "list", data := .seq #[] c₀ })
    (hR : ∀ h' tk acc' c', (∀ b o, b ≠ S → b ≠ I → s.heap.get? b = some o → h'.get? b = some o) → h'.get? S = some { cls := .type "list", dict := none, data := .seq acc' c', slots := #[] } →
      ItemsOf (fun i v => items[items.size - 1 - i]? = some v) acc' items.size → R (.ok (.ret res)) { s with heap := h', toks := tk }) :
    wpAny (model prog w) A.in1 (Builtin.List.listExtendWith (.ref S) (.ref I) res)
      (fun fin s' => match fin with | .done f => R (.ok f) s' | .again c' => c'.quiet = true ∧ codeAny (model prog w) A c' R s') (fun e s' => R (.error e) s') s := by
  have hSf : S ∉ [I, l] := fun hm => by
    rcases List.mem_cons.mp hm with e | hm
    · exact hSI e
    · exact hSl (List.mem_singleton.mp hm)
  have W := (Walks.listRev (prog := prog) (w := w) (A := A.in1) hh I l hne items).toS
  unfold Builtin.List.listExtendWith
  refine wpAny_bind (wpAny_typeOf hit.typeIs ?_)
  have h1 : Builtin.List.listSameRef (.ref S) (.ref I) = false := by simp [Builtin.List.listSameRef, hSI]
  have h2 : (Value.type "list_reverseiterator" == Value.type "list") = false := by decide
  have h3 : (Value.type "list_reverseiterator" == Value.type "tuple") = false := by decide
  simp only [h1, h2, h3, Bool.or_false, Bool.false_eq_true, if_false]
  refine wpAny_bind (wpAny_pyIter_revIter hit ?_)
  refine wpAny_bind (wpAny_holding (hint_rev hit.typeIs ?_))
  refine wpAny_ite_split (fun hab => absurd hab (by decide +kernel)) (fun _ => ?_)
  refine wpAny_pure ⟨plainId_quiet F.plain_extend_loop _, ?_⟩
  refine codeAny_extend_loopS W hn S hSf res items.size 0 _ #[] c₀ rfl (Nat.zero_le _) ⟨Nat.zero_le _, by simpa using hit, hl⟩ hS (ItemsOf.nil _) fun s' acc' c' hm hS' hacc => ?_
  rw [Moved.eq_with hm]
  refine hR s'.heap s'.toks acc' c' (fun b o hb hb2 e => hm.heap b o (fun hmem => ?_) e) hS' hacc
  rcases List.mem_cons.mp hmem with e' | hmem
  · exact hb e'
  · exact hb2 (List.mem_singleton.mp hmem)
theorem init_rev {R : Result → Shared → Prop} {I l S : Addr} {items : Array Value} (hh : A.handled = none) (hit : s.heap.IsRevIter I l ((items.size : Int) - 1)) (hl : s.heap.IsList l items) (hne : l ≠ I) (hSI : S ≠ I) (hSl : S ≠ l) (hn : items.size ≤ sizeLine)
    (hS : s.heap.get? S = some { cls := .type "list", data := .seq #[] })
    (hR : ∀ h' tk acc' c', (∀ b o, b ≠ S → b ≠ I → s.heap.get? b = some o → h'.get? b = some o) → h'.get? S = some { cls := .type "list", dict := none, data := .seq acc' c', slots := #[] } →
      ItemsOf (fun i v => items[items.size - 1 - i]? = some v) acc' items.size → R (.ok (.ret .none)) { s with heap := h', toks := tk }) :
    wpAny (model prog w) A.in1 (Builtin.«list.__init__» ⟨[.ref S, .ref I], []⟩)
      (fun fin s' => match fin with | .done f => R (.ok f) s' | .again c' => c'.quiet = true ∧ codeAny (model prog w) A c' R s') (fun e s' => R (.error e) s') s := by
  show wpAny _ A.in1 (do let old ← Builtin.List.listItems (.ref S); Builtin.List.listUpdate (.ref S) (fun _ => #[]); letGo old.toList.reverse; Builtin.List.listExtendWith (.ref S) (.ref I) .none) _ _ s
  refine wpAny_bind ?_
  unfold Builtin.List.listItems
  refine wpAny_bind (wpAny_seqItems hS rfl (wpAny_pure ?_))
  show wpAny _ A.in1 (updateSeq S (fun _ => #[]) >>= fun _ => letGo (#[] : Array Value).toList.reverse >>= fun _ => Builtin.List.listExtendWith (.ref S) (.ref I) .none) _ _ s
  refine wpAny_bind (wpAny_updateSeq hS rfl ?_)
  have hS₂ := Heap.get?_update_self (Obj.mapSeq (fun _ => (#[] : Array Value))) hS rfl
  have oth : ∀ b o, b ≠ S → s.heap.get? b = some o → (s.heap.update S (Obj.mapSeq (fun _ => (#[] : Array Value)))).get? b = some o :=
    fun b o hb e => (Heap.get?_update_other _ _ (Ne.symm hb)).trans e
  refine wpAny_bind (wpAny_letGo ?_)
  refine extend_rev hh (hit.at fun o e => oth I o (Ne.symm hSI) e) (hl.at fun o e => oth l o (Ne.symm hSl) e) hne hSI hSl hn .none _ hS₂ fun h' tk acc' c' hk hS' hacc => ?_
  exact hR h' tk acc' c' (fun b o hb hb2 e => hk b o hb hb2 (oth b o hb e)) hS' hacc
theorem call_list_rev {Q : Value → Shared → Prop} {I l : Addr} {items : Array Value} (hh : A.handled = none) (hit : s.heap.IsRevIter I l ((items.size : Int) - 1)) (hl : s.heap.IsList l items) (hne : l ≠ I) (hn : items.size ≤ sizeLine)
    (hQ : ∀ h' tk acc' c', (∀ b o, b ≠ I → s.heap.get? b = some o → h'.get? b = some o) →
      h'.get? s.heap.objs.size = some { cls := .type "list", dict := none, data := .seq acc' c', slots := #[] } → ItemsOf (fun i v => items[items.size - 1 - i]? = some v) acc' items.size → Q (.ref s.heap.objs.size) { s with heap := h', toks := tk }) :
    wpAny (model prog w) A (call (.type "list") [.ref I]) Q E s := by
  refine callType_codes (Q₁ := fun obj s₁ => obj = .ref s.heap.objs.size ∧ s₁ = { s with heap := s.heap.push { cls := .type "list", data := .seq #[] } }) F.called_list (F.typeCall_list_1 _) F.entry_list_init
    (code_list_new _ ⟨rfl, rfl⟩) fun obj s₁ h₁ => ?_
  obtain ⟨rfl, rfl⟩ := h₁
  have hS : (s.heap.push { cls := .type "list", data := .seq #[] }).get? s.heap.objs.size = some { cls := .type "list", data := .seq #[] } := Heap.get?_push_size _ rfl
  have hI : I < s.heap.objs.size := by obtain ⟨o, e, _⟩ := hit; exact Heap.lt_size e
  have hL : l < s.heap.objs.size := by obtain ⟨o, e, _⟩ := hl; exact Heap.lt_size e
  refine ⟨⟨_, hS, rfl⟩, F.args_list_init_2 _ _, init_rev (A := A.in1) hh (hit.at fun o e => Heap.get?_push_of_some _ e) (hl.at fun o e => Heap.get?_push_of_some _ e) hne (Nat.ne_of_gt hI) (Nat.ne_of_gt hL) hn hS fun h' tk acc' c' hk hS' hacc => ?_⟩
  exact ⟨rfl, hQ h' tk acc' c' (fun b o hb e => hk b o (Nat.ne_of_lt (Heap.lt_size e)) hb (Heap.get?_push_of_some _ e)) hS' hacc⟩
end
theorem bt_reversed : bootBuiltins "reversed" = some (.type "reversed") := by decide +kernel
theorem Vals.rev {xs : List V} {us : List Value} (h : Vals xs us) : Vals xs.reverse us.reverse := by
  induction h with
  | nil => exact .nil
  | cons r t ih =>
    rw [List.reverse_cons, List.reverse_cons]
    exact Vals.append ih (.cons r .nil)
theorem items_rev {its : List Value} {acc : Array Value} (h : ItemsOf (fun i v => its.toArray[its.toArray.size - 1 - i]? = some v) acc its.toArray.size) : acc.toList = its.reverse := by
  have hl : acc.toList.length = its.reverse.length := by
    have := h.1
    simp at this ⊢
    exact this
  refine List.ext_getElem hl fun i h1 h2 => ?_
  have e : acc[i]? = some acc.toList[i] := by
    have : i < acc.size := by simpa using h1
    simp [this]
  have h3 : its[its.length - 1 - i]? = some acc.toList[i] := by
    have := h.2 i _ e
    simpa only [List.size_toArray, List.getElem?_toArray] using this
  rw [List.getElem_reverse]
  exact (List.getElem?_eq_some_iff.mp h3).2.symm
section
variable {X : Cx}
def tListRev (K : PySem.W.Frag) (t : TA) : TE := fun σ H Q => t σ H fun vs H1 => ∃ p xs, vs = [.ref p] ∧ SqL K H1 p xs ∧ ∀ l, H1 l = none → Q (.ref l) (upd H1 l (.lst xs.reverse))
theorem e_listRev {K : PySem.W.Frag} {t : TA} {σ : St} {H : Hp} {Q : VK} : tListRev K t σ H Q = t σ H fun vs H1 => ∃ p xs, vs = [.ref p] ∧ SqL K H1 p xs ∧ ∀ l, H1 l = none → Q (.ref l) (upd H1 l (.lst xs.reverse)) := rfl
theorem pe_listRev {e : Expr} {t : TA} {p1 p2 q1 q2 : Pos} (hc : X.calm = true) (hgL : Gl X "list") (hmL : X.mg "list" = none) (hgR : Gl X "reversed") (hmR : X.mg "reversed" = none) (ha : PA X [e] t)
    (he : starEach [e] X.env = (false, eval e X.env) :: starEach [] X.env := by rfl) (he2 : starEach [.Call (.Name "reversed" p2) [e] [] q2] X.env = (false, eval (.Call (.Name "reversed" p2) [e] [] q2) X.env) :: starEach [] X.env := by rfl) :
    PE X (.Call (.Name "list" p1) [.Call (.Name "reversed" p2) [e] [] q2] [] q1) (tListRev X.K t) := by
  intro pins s σ H Q I h
  refine wpAny_Call_Name_kw (ld_blt I hgL hmL bt_list ?_)
  refine PyProof.Rows.callWith_type1 ?_ he2 rfl
  rw [he2]
  show wpAny _ _ (spliced ((false, eval (.Call (.Name "reversed" p2) [e] [] q2) X.env) :: backTo q1 (starEach [] X.env))) _ _ s
  refine Calls.spliced_cons ?_
  refine wpAny_Call_Name_kw (ld_blt I hgR hmR bt_reversed ?_)
  refine PyProof.Rows.callWith_type1 (thn (ha q2 pins s σ H _ I h) fun us s1 ⟨vs, H1, I1, r1, q⟩ => ?_) he rfl
  obtain ⟨p, xs, rfl, hq, q⟩ := q
  obtain ⟨u, rfl, rx⟩ := Vals.one r1
  cases rx
  obtain ⟨its, rv, pl, hz⟩ := I1.list hq
  have hlen := rv.length
  have hlt : p < s1.heap.objs.size := by obtain ⟨_, e, _⟩ := pl.isList; exact Heap.lt_size e
  refine call_reversed_list pl.isList ?_
  refine Calls.spliced_nil ?_
  have hl2 : (s1.heap.push (revObj p ((its.toArray.size : Int) - 1))).IsList p its.toArray := pl.isList.push _
  refine call_list_rev (s := { s1 with heap := s1.heap.push (revObj p ((its.toArray.size : Int) - 1)) }) (I1.ok.hd hc) (I := s1.heap.objs.size) (l := p) (items := its.toArray) ⟨_, Heap.get?_push_size _ rfl, rfl, rfl⟩ hl2 (Nat.ne_of_lt hlt) (by rw [List.size_toArray, ← hlen]; exact hz) fun h' tk acc c' hk hS hacc => ?_
  have hacc' := items_rev hacc
  have ea : acc = its.reverse.toArray := by rw [← hacc']
  rw [ea] at hS
  have hsz : (s1.heap.push (revObj p ((its.toArray.size : Int) - 1))).objs.size = s1.heap.objs.size + 1 := size_push' ..
  have kp : ∀ b o, s1.heap.get? b = some o → h'.get? b = some o := fun b o e => hk b o (Nat.ne_of_lt (Heap.lt_size e)) (Heap.get?_push_of_some _ e)
  have hle : s1.heap.objs.size ≤ (s1.heap.push (revObj p ((its.toArray.size : Int) - 1))).objs.size := by rw [hsz]; exact Nat.le_succ _
  refine ⟨.ref _, _, I1.laid (t' := tk) kp hle (show ObjOk X.prog X.w _ h' _ (.lst xs.reverse) from ⟨by rw [List.length_reverse]; exact hz, its.reverse, c', rv.rev, hS⟩), rfl, q _ (I1.hok.fresh hle)⟩

def tListRng (t : TA) : TE := fun σ H Q => t σ H fun vs H1 => ∃ j : Nat, vs = [.int j] ∧ j ≤ 1000 ∧ ∀ l, H1 l = none → Q (.ref l) (upd H1 l (.lst (((List.range j).map fun i : Nat => ((i : Nat) : Int)).map V.int)))
theorem e_listRng {t : TA} {σ : St} {H : Hp} {Q : VK} : tListRng t σ H Q = t σ H fun vs H1 => ∃ j : Nat, vs = [.int j] ∧ j ≤ 1000 ∧ ∀ l, H1 l = none → Q (.ref l) (upd H1 l (.lst (((List.range j).map fun i : Nat => ((i : Nat) : Int)).map V.int))) := rfl
theorem vals_rng : ∀ (n : Nat) (acc : List Value), acc.length = n → (∀ (j : Nat) v, acc[j]? = some v → ∃ t, v = .int (0 + (j : Int) * 1) t) → Vals (((List.range n).map fun i : Nat => ((i : Nat) : Int)).map V.int) acc
  | 0, acc, hl, _ => by
    cases acc with
    | nil => exact .nil
    | cons _ _ => simp at hl
  | n + 1, acc, hl, h => by
    have hne : acc ≠ [] := by intro e; subst e; simp at hl
    have e := List.dropLast_concat_getLast hne
    rw [← e]
    have hdl : acc.dropLast.length = n := by rw [List.length_dropLast, hl]; rfl
    have hg : acc[n]? = some (acc.getLast hne) := by
      rw [List.getLast_eq_getElem]
      have : acc.length - 1 = n := by omega
      rw [List.getElem?_eq_getElem (by omega)]
      simp [this]
    obtain ⟨t, ht⟩ := h n _ hg
    rw [List.range_succ, List.map_append, List.map_append]
    refine Vals.append (vals_rng n _ hdl fun j v hj => h j v ?_) (.cons ⟨t, by rw [ht]; simp⟩ .nil)
    have hjl : j < n := by have := (List.getElem?_eq_some_iff.mp hj).1; omega
    rw [List.getElem?_dropLast, if_pos (by omega)] at hj
    exact hj
theorem pe_listRng {e : Expr} {t : TA} {p1 p2 q1 q2 : Pos} (hc : X.calm = true) (hgL : Gl X "list") (hmL : X.mg "list" = none) (hgR : Gl X "range") (hmR : X.mg "range" = none) (ha : PA X [e] t)
    (he : starEach [e] X.env = (false, eval e X.env) :: starEach [] X.env := by rfl) (he2 : starEach [.Call (.Name "range" p2) [e] [] q2] X.env = (false, eval (.Call (.Name "range" p2) [e] [] q2) X.env) :: starEach [] X.env := by rfl) :
    PE X (.Call (.Name "list" p1) [.Call (.Name "range" p2) [e] [] q2] [] q1) (tListRng t) := by
  intro pins s σ H Q I h
  refine wpAny_Call_Name_kw (ld_blt I hgL hmL bt_list ?_)
  refine PyProof.Rows.callWith_type1 ?_ he2 rfl
  rw [he2]
  show wpAny _ _ (spliced ((false, eval (.Call (.Name "range" p2) [e] [] q2) X.env) :: backTo q1 (starEach [] X.env))) _ _ s
  refine Calls.spliced_cons ?_
  refine wpAny_Call_Name_kw (ld_blt I hgR hmR bt_range ?_)
  refine PyProof.Rows.callWith_type1 (thn (ha q2 pins s σ H _ I h) fun us s1 ⟨vs, H1, I1, r1, q⟩ => ?_) he rfl
  obtain ⟨j, rfl, hj, q⟩ := q
  obtain ⟨u, rfl, t0, rfl⟩ := Vals.one r1
  refine call_range_1 ?_
  refine Calls.spliced_nil ?_
  have hn : Builtin.Range.rangeSize 0 (j : Int) 1 = (j : Int) := by rw [rangeSize_one]; split <;> omega
  refine call_list_range (n := j) (I1.ok.hd hc) (IsRange.new ..) (small_one (by omega) (by omega) (by omega) (by omega)) hn (by omega) fun h' tk acc c' hk hS hacc => ?_
  have hv := vals_rng j acc.toList (by simpa using hacc.1) fun i v hi => hacc.2 i v (by simpa using hi)
  have hsz : (s1.heap.push { cls := .type "range", data := .fields #[.int 0 s1.toks, .int (j : Int) t0, .int 1 (s1.toks + 1)] }).objs.size = s1.heap.objs.size + 1 := size_push' ..
  have kp : ∀ b o, s1.heap.get? b = some o → h'.get? b = some o := fun b o e => hk b o (Heap.get?_push_of_some _ e)
  have hle : s1.heap.objs.size ≤ (s1.heap.push { cls := .type "range", data := .fields #[.int 0 s1.toks, .int (j : Int) t0, .int 1 (s1.toks + 1)] }).objs.size := by rw [hsz]; exact Nat.le_succ _
  have hz : (((List.range j).map fun i : Nat => ((i : Nat) : Int)).map V.int).length ≤ sizeLine := by
    rw [List.length_map, List.length_map, List.length_range]
    exact Nat.le_trans hj (by decide)
  refine ⟨.ref _, _, I1.laid (t' := tk) kp hle (show ObjOk X.prog X.w _ h' _ (.lst (((List.range j).map fun i : Nat => ((i : Nat) : Int)).map V.int)) from ⟨hz, acc.toList, c', hv, by simpa using hS⟩), rfl, q _ (I1.hok.fresh hle)⟩
end
end L2

set_option Elab.async false
set_option maxRecDepth 100000
/-! len(set(xs)) of texts; <= of texts; a text walked in a comprehension. -/
namespace L2
open PySem PySem.Spec PyProof.Rows
/-- the texts met, each once -/
def seen (val : Nat → Str) : Nat → List Str
  | 0 => []
  | i + 1 => if val i ∈ seen val i then seen val i else seen val i ++ [val i]
section
variable {prog : Program} {w : World} {A : Around} {R : Result → Shared → Prop} {I : Addr} {fp wr : List Addr} {G : Array GenState → Array GenState → Prop} {n : Nat} {P : Nat → Value → Prop} {St : Nat → Shared → Prop}
end
section
variable {prog : Program} {w : World} {A : Around} {E : Value → Shared → Prop} {s : Shared}
set_option maxHeartbeats 3200000 in
end
end L2

set_option Elab.async false
set_option maxRecDepth 100000
/-! the rules of len(set(xs)) of texts, of <= of texts, of a text walked. -/
namespace L2
open PySem PySem.Spec PyProof.Rows
section
variable {X : Cx}
def tLenSet (K : PySem.W.Frag) (t : TA) : TE := fun σ H Q => t σ H fun vs H1 => ∃ (p : Addr) (zs : List Str), vs = [.ref p] ∧ SqL K H1 p (zs.map V.str) ∧ zs.length ≤ 1000 ∧ Q (.int (seen (fun i => zs.getD i ⟨#[]⟩) zs.length).length) H1
theorem e_lenSet {K : PySem.W.Frag} {t : TA} {σ : St} {H : Hp} {Q : VK} : tLenSet K t σ H Q = t σ H fun vs H1 => ∃ (p : Addr) (zs : List Str), vs = [.ref p] ∧ SqL K H1 p (zs.map V.str) ∧ zs.length ≤ 1000 ∧ Q (.int (seen (fun i => zs.getD i ⟨#[]⟩) zs.length).length) H1 := rfl
def rLeS (x y : V) (H : Hp) (Q : VK) : Prop := ∃ i j, x = .str i ∧ y = .str j ∧ Q (.bl (!decide (j.cps.toList < i.cps.toList))) H
theorem e_leS {x y : V} {H : Hp} {Q : VK} : rLeS x y H Q = ∃ i j, x = .str i ∧ y = .str j ∧ Q (.bl (!decide (j.cps.toList < i.cps.toList))) H := rfl
end
section
variable {σ : St} {k : Nat} {g : TG} {tt : TT} {te : TE} {H1 : Hp} {Fin : List V → Hp → Prop}
end
/-! ### a display of whole numbers -/
def vInts : List Int → List V
  | [] => []
  | i :: is => .int i :: vInts is
theorem e_vI0 : vInts [] = [] := rfl
theorem e_vI {i : Int} {is : List Int} : vInts (i :: is) = .int i :: vInts is := rfl
def tInts (ns : List Int) : TA := fun _ H Q => Q (vInts ns) H
theorem e_ints {ns : List Int} {σ : St} {H : Hp} {Q : List V → Hp → Prop} : tInts ns σ H Q = Q (vInts ns) H := rfl
end L2

set_option Elab.async false
set_option maxRecDepth 100000
/-! for over zip; `is` of truths. -/
namespace L2
open PySem PySem.Spec PyProof.Rows
section
variable {X : Cx}
def rIsB (x y : V) (H : Hp) (Q : VK) : Prop := ∃ b c, x = .bl b ∧ y = .bl c ∧ Q (.bl (b == c)) H
theorem e_isB {x y : V} {H : Hp} {Q : VK} : rIsB x y H Q = ∃ b c, x = .bl b ∧ y = .bl c ∧ Q (.bl (b == c)) H := rfl
end
end L2

set_option Elab.async false
set_option maxRecDepth 100000
/-! a suite, statement by statement, by its places. -/
namespace L2
open PySem PySem.Spec PyProof.Rows
end L2

set_option Elab.async false
set_option maxRecDepth 100000
/-! tuples put together and cut, also empty and whole ones; a range downwards; extend; places in tuples and lists. -/
namespace L2
open PySem PySem.Spec PyProof.Rows
section
variable {prog : Program} {w : World} {A : Around} {E : Value → Shared → Prop} {s : Shared}
end
section
variable {X : Cx}
/-- t + u of tracked tuples -/
def rCatH : R2 := fun x y H Q => ∃ a b xs ys, x = .ref a ∧ y = .ref b ∧ H a = some (.tup xs) ∧ H b = some (.tup ys) ∧ xs.length + ys.length ≤ sizeLine ∧ ∀ H' p, Same H H' → H' p = some (.tup (xs ++ ys)) → Q (.ref p) H'
theorem e_catH {x y : V} {H : Hp} {Q : VK} : rCatH x y H Q = ∃ a b xs ys, x = .ref a ∧ y = .ref b ∧ H a = some (.tup xs) ∧ H b = some (.tup ys) ∧ xs.length + ys.length ≤ sizeLine ∧ ∀ H' p, Same H H' → H' p = some (.tup (xs ++ ys)) → Q (.ref p) H' := rfl
theorem e_extend {x : V} {vs : List V} {H : Hp} {Q : VK} : rExtend x vs H Q = ∃ l b xs zs, x = .ref l ∧ vs = [.ref b] ∧ H l = some (.lst xs) ∧ H b = some (.lst zs) ∧ xs.length + zs.length ≤ sizeLine ∧ Q .non (upd H l (.lst (xs ++ zs))) := rfl
end
/-! ### a range downwards -/
def iRngD (ta : TA) : TI := fun σ H R => ta σ H fun vs H1 => ∃ i j : Int, vs = [.int i, .int j, .int (-1)] ∧ (-(2 ^ 61) ≤ i ∧ i < 2 ^ 61 ∧ -(2 ^ 61) ≤ j ∧ j < 2 ^ 61) ∧ R (Its i (-1) (i - j).toNat) H1
theorem e_rngD {ta : TA} {σ : St} {H : Hp} {R : It → Hp → Prop} : iRngD ta σ H R = ta σ H fun vs H1 => ∃ i j : Int, vs = [.int i, .int j, .int (-1)] ∧ (-(2 ^ 61) ≤ i ∧ i < 2 ^ 61 ∧ -(2 ^ 61) ≤ j ∧ j < 2 ^ 61) ∧ R (Its i (-1) (i - j).toNat) H1 := rfl
/-! ### slices of tuples, also the whole -/
section
open HT
variable {prog : Program} {w : World} {A : Around} {E : Value → Shared → Prop} {s : Shared}
end
section
variable {X : Cx}
/-- t[lo:hi] of a tracked tuple -/
def rSlH : V → Option Int → Option Int → Hp → VK → Prop := fun x lo hi H Q => ∃ a xs, x = .ref a ∧ H a = some (.tup xs) ∧ ∀ H' p, Same H H' → H' p = some (.tup (cutV xs lo hi)) → Q (.ref p) H'
theorem e_slH {x : V} {lo hi : Option Int} {H : Hp} {Q : VK} : rSlH x lo hi H Q = ∃ a xs, x = .ref a ∧ H a = some (.tup xs) ∧ ∀ H' p, Same H H' → H' p = some (.tup (cutV xs lo hi)) → Q (.ref p) H' := rfl
/-- t[lo:hi], not the whole, of any tuple -/
theorem e_slT {K : PySem.W.Frag} {x : V} {lo hi : Option Int} {H : Hp} {Q : VK} : rSlT K x lo hi H Q = ∃ a xs, x = .ref a ∧ SqT K H a xs ∧ ¬ (HT.sIx xs.length 0 lo = 0 ∧ HT.sIx xs.length xs.length hi = xs.length) ∧ ∀ p, H p = none → Q (.ref p) (upd H p (.tup (cutV xs lo hi))) := rfl
end
end L2
namespace L2
open PySem PySem.Spec PyProof.Rows
section
variable {σ : St} {k : Nat} {g : TG} {tt : TT} {te : TE} {H1 : Hp} {Fin : List V → Hp → Prop}
theorem comp_enum {K : PySem.W.Frag} {a : Addr} {xs : List V} (Pv : Nat → List V → Hp → Prop) (h0 : Pv 0 [] H1) (hz : ∀ i ys H, i ≤ xs.length → Pv i ys H → ys.length ≤ sizeLine ∧ SqL K H a xs)
    (hs : ∀ i x ys H T, xs[i]? = some x → H T = none → Pv i ys H → g (.ref T) (List.replicate k none ++ σ) (upd H T (.tup [.int i, x])) fun σ2 H2 => σ2.drop k = σ ∧ tt σ2 H2 fun b H3 => if b = true then te σ2 H3 fun v H4 => Pv (i + 1) (ys ++ [v]) H4 else Pv (i + 1) ys H3)
    (hd : ∀ ys H, Pv xs.length ys H → Fin ys H) : CompW (Ite K a) σ k g tt te H1 Fin := by
  refine ⟨fun i m ys H => m = xs.length - i ∧ i ≤ xs.length ∧ Pv i ys H, ⟨xs.length, by simp, Nat.zero_le _, h0⟩, ?_⟩
  rintro i m ys H ⟨rfl, hi, p⟩
  obtain ⟨q0, qa⟩ := hz i ys H hi p
  refine ⟨q0, ?_⟩
  by_cases hlt : i < xs.length
  · refine .inr ⟨⟨xs, xs[i], qa, by simp [hlt]⟩, Pv (i + 1), fun ys' H' p' => ⟨xs.length - (i + 1), by omega, rfl, hlt, p'⟩, fun x H' y => ?_⟩
    obtain ⟨T, x', rfl, hT, rfl, hy⟩ := y
    exact hs i x' ys _ T (hy xs qa) hT p
  · have e : i = xs.length := by omega
    subst e
    exact .inl ⟨⟨xs, qa, Nat.le_refl _⟩, hd ys H p⟩
end
end L2
namespace L2
open PySem PySem.Spec PyProof.Rows
/-! ### places of flat things -/
section
variable {X : Cx}
structure FirstAt (xs : List V) (y : V) (j : Nat) : Prop where
  flat : flatV y = true
  flats : xs.all flatV = true
  hit : ∃ z, xs[j]? = some z ∧ eqV z y = true
  no : ∀ (m : Nat) (z : V), m < j → xs[m]? = some z → eqV z y = false
theorem FirstAt.lt {xs : List V} {y : V} {j : Nat} (h : FirstAt xs y j) : j < xs.length := by
  obtain ⟨z, e, _⟩ := h.hit
  exact (List.getElem?_eq_some_iff.mp e).1
def rIndexT (K : PySem.W.Frag) : V → List V → Hp → VK → Prop := fun x vs H Q => ∃ p xs y j, x = .ref p ∧ vs = [y] ∧ SqT K H p xs ∧ FirstAt xs y j ∧ Q (.int (j : Nat)) H
def rIndexL (K : PySem.W.Frag) : V → List V → Hp → VK → Prop := fun x vs H Q => ∃ p xs y j, x = .ref p ∧ vs = [y] ∧ SqL K H p xs ∧ FirstAt xs y j ∧ Q (.int (j : Nat)) H
theorem e_indexT {K : PySem.W.Frag} {x : V} {vs : List V} {H : Hp} {Q : VK} : rIndexT K x vs H Q = ∃ p xs y j, x = .ref p ∧ vs = [y] ∧ SqT K H p xs ∧ FirstAt xs y j ∧ Q (.int (j : Nat)) H := rfl
theorem e_indexL {K : PySem.W.Frag} {x : V} {vs : List V} {H : Hp} {Q : VK} : rIndexL K x vs H Q = ∃ p xs y j, x = .ref p ∧ vs = [y] ∧ SqL K H p xs ∧ FirstAt xs y j ∧ Q (.int (j : Nat)) H := rfl
end
/-! ### dicts with tuples as keys -/
section
variable {X : Cx}
def rInK (neg : Bool) : R2 := fun y x H Q => ∃ a o, x = .ref a ∧ DGet H a y o ∧ Q (.bl (neg ^^ o.isSome)) H
theorem e_inK {neg : Bool} {y x : V} {H : Hp} {Q : VK} : rInK neg y x H Q = ∃ a o, x = .ref a ∧ DGet H a y o ∧ Q (.bl (neg ^^ o.isSome)) H := rfl
def rSetD : TSet := fun o i v H Q => ∃ a H', o = .ref a ∧ DPut H a i v H' ∧ Q H'
theorem e_setD {o i v : V} {H : Hp} {Q : Hp → Prop} : rSetD o i v H Q = ∃ a H', o = .ref a ∧ DPut H a i v H' ∧ Q H' := rfl
theorem e_dnewT {σ : St} {H : Hp} {Q : VK} : tDNewT σ H Q = ∀ p, H p = none → Q (.ref p) (upd H p (.dT [])) := rfl
theorem e_dget {td ty : TE} {σ : St} {H : Hp} {Q : VK} : tDGet td ty σ H Q = td σ H fun x H1 => ty σ H1 fun y H2 => ∃ a v, x = .ref a ∧ DGet H2 a y (some v) ∧ Q v H2 := rfl
end
end L2
namespace L2
open PySem PySem.Spec PyProof.Rows
/-! ### methods of tuples that are tracked -/
section
variable {X : Cx}
def tBMT (r : V → List V → Hp → VK → Prop) (to : TE) (t : TA) : TE := fun σ H Q => to σ H fun x H1 => (∃ p xs, x = .ref p ∧ Rd H1 p (.tup xs)) ∧ t σ H1 fun xs H2 => r x xs H2 Q
theorem e_BMT {r : V → List V → Hp → VK → Prop} {to : TE} {t : TA} {σ : St} {H : Hp} {Q : VK} : tBMT r to t σ H Q = to σ H fun x H1 => (∃ p xs, x = .ref p ∧ Rd H1 p (.tup xs)) ∧ t σ H1 fun xs H2 => r x xs H2 Q := rfl
end
end L2
namespace L2
open PySem PySem.Spec PyProof.Rows
/-! ### products of numbers of up to sixty figures -/
theorem bits_le {i : Int} {n : Nat} (h1 : -(2 ^ n) < i) (h2 : i < 2 ^ n) : Builtin.Int.intBits i ≤ n := by
  unfold Builtin.Int.intBits
  split
  · exact Nat.zero_le _
  · rename_i h
    have h0 : i ≠ 0 := fun e => h (by rw [e]; rfl)
    have hn : i.natAbs < 2 ^ n := by
      have e : ((2 ^ n : Nat) : Int) = (2 : Int) ^ n := by rw [Int.natCast_pow]; rfl
      have : (i.natAbs : Int) < ((2 ^ n : Nat) : Int) := by rw [e]; omega
      exact_mod_cast this
    exact (Nat.log2_lt (by omega)).mpr hn
def CMulB (i j : Int) : Prop := (-(10 ^ 60) ≤ i ∧ i ≤ 10 ^ 60) ∧ -(10 ^ 60) ≤ j ∧ j ≤ 10 ^ 60
theorem CMulB.ok {i j : Int} (h : CMulB i j) : IntMulOk i j := by
  have e : (10 : Int) ^ 60 < 2 ^ 200 := by decide
  obtain ⟨⟨a, b⟩, c, d⟩ := h
  exact .of_bits (Nat.le_trans (bits_le (n := 200) (by omega) (by omega)) (by decide)) (Nat.le_trans (bits_le (n := 200) (by omega) (by omega)) (by decide))
end L2

set_option Elab.async false
set_option maxRecDepth 100000
/-! zip of two or three lists or tuples. -/
namespace L2
open PySem
/-! ### zip of lists and tuples -/
def SeqH (h : Heap) (l : Addr) (xs : Array Value) : Prop := ∃ o n, h.get? l = some o ∧ o.data = .seq xs n
section
variable {prog : Program} {w : World} {A : Around} {E : Value → Shared → Prop} {s : Shared}
end
/-- a list or a tuple that is walked: its iterator, itself, its items -/
structure Drw where
  it : Addr
  l : Addr
  xs : Array Value
def DrAt (h : Heap) (d : Drw) (k : Nat) : Prop := (h.IsListIter d.it d.l k ∨ h.IsTupleIter d.it d.l k) ∧ SeqH h d.l d.xs
theorem DrAt.ext {h h' : Heap} {d : Drw} {k : Nat} (q : DrAt h d k) (h1 : ∀ o, h.get? d.it = some o → h'.get? d.it = some o) (h2 : ∀ o, h.get? d.l = some o → h'.get? d.l = some o) : DrAt h' d k := by
  obtain ⟨a, o', n, e', r'⟩ := q
  refine ⟨?_, o', n, h2 o' e', r'⟩
  rcases a with ⟨o, e, r⟩ | ⟨o, e, r⟩
  · exact .inl ⟨o, h1 o e, r⟩
  · exact .inr ⟨o, h1 o e, r⟩
theorem DrAt.itAt {h : Heap} {d : Drw} {k : Nat} (q : DrAt h d k) : ∃ o, h.get? d.it = some o ∧ o.data = .fields #[.ref d.l, .int k 0] := by
  rcases q.1 with ⟨o, e, c, r⟩ | ⟨o, e, c, r⟩ <;> exact ⟨o, e, r⟩
theorem DrAt.ne {h : Heap} {d : Drw} {k : Nat} (q : DrAt h d k) : d.l ≠ d.it := fun e => by
  obtain ⟨o, e1, r1⟩ := q.itAt
  obtain ⟨o', n, e2, r2⟩ := q.2
  rw [e, e1] at e2
  cases e2
  rw [r1] at r2
  cases r2
section
variable {prog : Program} {w : World} {A : Around} {E : Value → Shared → Prop} {s : Shared}
end
/-! made -/
def SrcAt (h : Heap) (b : Bool) (l : Addr) (xs : Array Value) : Prop := if b = true then h.IsList l xs else h.IsTuple l xs
def itObj (b : Bool) (l : Addr) : Obj := { cls := .type (if b = true then "list_iterator" else "tuple_iterator"), data := .fields #[.ref l, .int 0 0] }
theorem SrcAt.push {h : Heap} {b : Bool} {l : Addr} {xs : Array Value} (q : SrcAt h b l xs) (o : Obj) : SrcAt (h.push o) b l xs := by
  cases b
  · obtain ⟨p, e, r⟩ := (show h.IsTuple l xs from q)
    exact ⟨p, Heap.get?_push_of_some _ e, r⟩
  · obtain ⟨p, e, r⟩ := (show h.IsList l xs from q)
    exact ⟨p, Heap.get?_push_of_some _ e, r⟩
theorem DrAt.start {h : Heap} {b : Bool} {n l : Addr} {xs : Array Value} (e : h.get? n = some (itObj b l)) (q : SrcAt h b l xs) : DrAt h ⟨n, l, xs⟩ 0 := by
  cases b
  · obtain ⟨o, e', c, n, r⟩ := (show h.IsTuple l xs from q)
    exact ⟨.inr ⟨_, e, rfl, rfl⟩, o, n, e', r⟩
  · obtain ⟨o, e', c, n, r⟩ := (show h.IsList l xs from q)
    exact ⟨.inl ⟨_, e, rfl, rfl⟩, o, n, e', r⟩
theorem SrcAt.keeps {h h' : Heap} {b : Bool} {l : Addr} {xs : Array Value} (q : SrcAt h b l xs) (k : ∀ c o, h.get? c = some o → h'.get? c = some o) : SrcAt h' b l xs := by
  cases b
  · obtain ⟨p, e, r⟩ := (show h.IsTuple l xs from q)
    exact ⟨p, k _ _ e, r⟩
  · obtain ⟨p, e, r⟩ := (show h.IsList l xs from q)
    exact ⟨p, k _ _ e, r⟩
section
variable {prog : Program} {w : World} {A : Around} {E : Value → Shared → Prop} {s : Shared}
end
end L2
namespace L2
open PySem PySem.Spec PyProof.Rows
def SqA (K : PySem.W.Frag) (H : Hp) (a : Addr) (xs : List V) : Prop := SqL K H a xs ∨ SqT K H a xs
structure AllSq (K : PySem.W.Frag) (H : Hp) (as : List Addr) (xss : List (List V)) : Prop where
  len : as.length = xss.length
  at' : ∀ (j : Nat) (a : Addr) (xs : List V), as[j]? = some a → xss[j]? = some xs → SqA K H a xs
def ItN (K : PySem.W.Frag) (as : List Addr) : It :=
  ⟨fun i H => ∃ xss, AllSq K H as xss ∧ ∀ xs ∈ xss, i < xs.length,
   fun i H v H' => ∃ T vs, v = .ref T ∧ H T = none ∧ H' = upd H T (.tup vs) ∧ ∀ xss, AllSq K H as xss → vs.length = xss.length ∧ ∀ (j : Nat) (xs : List V), xss[j]? = some xs → xs[i]? = vs[j]?,
   fun i H => ∃ xss, AllSq K H as xss ∧ ∃ xs ∈ xss, xs.length ≤ i⟩
section
variable {X : Cx} {pins : List (Addr × Obj)} {σ : St} {H : Hp} {s : Shared}
end
def iZip3 (K : PySem.W.Frag) (ta : TA) : TI := fun σ H R => ta σ H fun vs H1 => ∃ a b c, vs = [.ref a, .ref b, .ref c] ∧ (∃ xss, AllSq K H1 [a, b, c] xss) ∧ R (ItN K [a, b, c]) H1
def iZip2 (K : PySem.W.Frag) (ta : TA) : TI := fun σ H R => ta σ H fun vs H1 => ∃ a b, vs = [.ref a, .ref b] ∧ (∃ xss, AllSq K H1 [a, b] xss) ∧ R (ItN K [a, b]) H1
theorem e_zip3 {K : PySem.W.Frag} {ta : TA} {σ : St} {H : Hp} {R : It → Hp → Prop} : iZip3 K ta σ H R = ta σ H fun vs H1 => ∃ a b c, vs = [.ref a, .ref b, .ref c] ∧ (∃ xss, AllSq K H1 [a, b, c] xss) ∧ R (ItN K [a, b, c]) H1 := rfl
theorem e_zip2 {K : PySem.W.Frag} {ta : TA} {σ : St} {H : Hp} {R : It → Hp → Prop} : iZip2 K ta σ H R = ta σ H fun vs H1 => ∃ a b, vs = [.ref a, .ref b] ∧ (∃ xss, AllSq K H1 [a, b] xss) ∧ R (ItN K [a, b]) H1 := rfl
theorem Vals.three {x y z : V} {us : List Value} (r : Vals [x, y, z] us) : ∃ u v w, us = [u, v, w] ∧ RelV x u ∧ RelV y v ∧ RelV z w := by
  cases r with
  | cons r1 r => cases r with
    | cons r2 r => cases r with
      | cons r3 r =>
        cases r
        exact ⟨_, _, _, rfl, r1, r2, r3⟩
section
variable {σ : St} {k : Nat} {g : TG} {tt : TT} {te : TE} {H1 : Hp} {Fin : List V → Hp → Prop}
end
end L2

set_option Elab.async false
set_option maxRecDepth 100000
/-! dict(xs) of a list of pairs whose keys are tuples. -/
namespace L2
open PySem PySem.Spec PyProof.Rows
section
variable {prog : Program} {w : World} {K : Type} [DecidableEq K] {knd : KeyKind prog w K}
end
end L2
namespace L2
open PySem PySem.Spec PyProof.Rows
def dictOf (kvs : List (List Key × V)) : List (List Key × V) := kvs.foldl (fun acc kv => putK acc kv.1 kv.2) []
structure PairsH (H : Hp) (Ts : List Addr) (kvs : List (List Key × V)) : Prop where
  len : Ts.length = kvs.length
  at' : ∀ (i : Nat) (T : Addr) (kv : List Key × V), Ts[i]? = some T → kvs[i]? = some kv → ∃ b, H T = some (.tup [.ref b, kv.2]) ∧ H b = some (.tup (kv.1.map kV))
def rDictP (xs : List V) (H : Hp) (Q : VK) : Prop := ∃ (l : Addr) (Ts : List Addr) (kvs : List (List Key × V)), xs = [.ref l] ∧ H l = some (.lst (Ts.map V.ref)) ∧ PairsH H Ts kvs ∧ ∀ p, H p = none → Q (.ref p) (upd H p (.dT (dictOf kvs)))
theorem e_dictP {xs : List V} {H : Hp} {Q : VK} : rDictP xs H Q = ∃ (l : Addr) (Ts : List Addr) (kvs : List (List Key × V)), xs = [.ref l] ∧ H l = some (.lst (Ts.map V.ref)) ∧ PairsH H Ts kvs ∧ ∀ p, H p = none → Q (.ref p) (upd H p (.dT (dictOf kvs))) := rfl
section
variable {X : Cx} {pins : List (Addr × Obj)} {σ : St} {H : Hp} {s : Shared}
end
end L2
namespace L2
open PySem
end L2

set_option Elab.async false
set_option maxRecDepth 100000
/-! max(xs, key=f); dicts with texts as keys copied and compared. -/
namespace L2
open PySem PySem.Spec PyProof.Rows
section
variable {X : Cx} {pins : List (Addr × Obj)} {σ : St} {H : Hp} {k : Nat} {f : Addr} {fd : FuncData} {ps : List Str} {sp : Sp}
def tMaxK (K : PySem.W.Frag) (sp : Sp) (ta : TA) : TE := fun σ H Q => ta σ H fun vs H1 => ∃ (l : Addr) (xs : List V) (kf : Nat → Int), vs = [.ref l] ∧ SqL K H1 l xs ∧ 0 < xs.length ∧
  (∀ i x, xs[i]? = some x → sp [x] H1 (fun v H' => v = .int (kf i) ∧ H' = H1) E0) ∧ ∀ i x, xs[i]? = some x → (∀ j, j < xs.length → kf j ≤ kf i ∧ (j < i → kf j < kf i)) → Q x H1
theorem e_maxK {K : PySem.W.Frag} {ta : TA} {Q : VK} : tMaxK K sp ta σ H Q = ta σ H fun vs H1 => ∃ (l : Addr) (xs : List V) (kf : Nat → Int), vs = [.ref l] ∧ SqL K H1 l xs ∧ 0 < xs.length ∧
  (∀ i x, xs[i]? = some x → sp [x] H1 (fun v H' => v = .int (kf i) ∧ H' = H1) E0) ∧ ∀ i x, xs[i]? = some x → (∀ j, j < xs.length → kf j ≤ kf i ∧ (j < i → kf j < kf i)) → Q x H1 := rfl
end
end L2
namespace L2
open PySem PySem.Spec PyProof.Rows
section
variable {X : Cx}
def rDictK (xs : List V) (H : Hp) (Q : VK) : Prop := ∃ (a : Addr) (kvs : List (Key × V)), xs = [.ref a] ∧ H a = some (.dK kvs) ∧ ∀ p, H p = none → Q (.ref p) (upd H p (.dK kvs))
theorem e_dictK {xs : List V} {H : Hp} {Q : VK} : rDictK xs H Q = ∃ (a : Addr) (kvs : List (Key × V)), xs = [.ref a] ∧ H a = some (.dK kvs) ∧ ∀ p, H p = none → Q (.ref p) (upd H p (.dK kvs)) := rfl
/-- two dicts alike, with flat values -/
def rEqK (x y : V) (H : Hp) (Q : VK) : Prop := ∃ (a b : Addr) (kvs : List (Key × V)), x = .ref a ∧ y = .ref b ∧ H a = some (.dK kvs) ∧ H b = some (.dK kvs) ∧ (∀ kv ∈ kvs, flatV kv.2 = true) ∧ Q (.bl true) H
theorem e_eqK {x y : V} {H : Hp} {Q : VK} : rEqK x y H Q = ∃ (a b : Addr) (kvs : List (Key × V)), x = .ref a ∧ y = .ref b ∧ H a = some (.dK kvs) ∧ H b = some (.dK kvs) ∧ (∀ kv ∈ kvs, flatV kv.2 = true) ∧ Q (.bl true) H := rfl
end
end L2

set_option Elab.async false
set_option maxRecDepth 100000
/-! any of a list. -/
namespace L2
open PySem PySem.Spec PyProof.Rows
section
variable {X : Cx}
/-- t.count(x) of flat things -/
def rCountT (K : PySem.W.Frag) : V → List V → Hp → VK → Prop := fun x vs H Q => ∃ p xs y, x = .ref p ∧ vs = [y] ∧ SqT K H p xs ∧ flatV y = true ∧ xs.all flatV = true ∧ Q (.int ((xs.countP fun z => eqV z y : Nat) : Int)) H
theorem e_countT {K : PySem.W.Frag} {x : V} {vs : List V} {H : Hp} {Q : VK} : rCountT K x vs H Q = ∃ p xs y, x = .ref p ∧ vs = [y] ∧ SqT K H p xs ∧ flatV y = true ∧ xs.all flatV = true ∧ Q (.int ((xs.countP fun z => eqV z y : Nat) : Int)) H := rfl
end
end L2

set_option Elab.async false
set_option maxRecDepth 100000
/-! A list comprehension whose own name is read by a comprehension in it: the name is a cell. -/
namespace L2
open PySem PySem.Spec PyProof.Rows
section
variable {X : Cx} {pins : List (Addr × Obj)} {σ : St} {H2 : Hp} {s₂ : Shared} {scope : Scope} {ts N2 : List Str} {cl : List (Str × Addr)} {C D : Addr} {fp : List Addr}
end

end L2

set_option Elab.async false
set_option maxRecDepth 100000
/-! d.get(k), d.get(k, x): readings. -/
namespace L2
open PySem PySem.Spec PyProof.Rows
theorem e_dg1 {td ty : TE} {σ : St} {H : Hp} {Q : VK} : tDGet1 td ty σ H Q = td σ H fun x H1 => ∃ a, x = .ref a ∧ IsD H1 a ∧ ty σ H1 fun y H2 => ∃ o, DGet H2 a y o ∧ Q (o.getD .non) H2 := rfl
theorem e_dg2 {td ty tx : TE} {σ : St} {H : Hp} {Q : VK} : tDGet2 td ty tx σ H Q = td σ H fun x H1 => ∃ a, x = .ref a ∧ IsD H1 a ∧ ty σ H1 fun y H2 => tx σ H2 fun z H3 => ∃ o, DGet H3 a y o ∧ Q (o.getD z) H3 := rfl
end L2

/-! != of two lists that hold the very same things. -/
namespace L2
open PySem PySem.Spec PyProof.Rows
section
variable {X : Cx}
def rNeI (K : PySem.W.Frag) (x y : V) (H : Hp) (Q : VK) : Prop := ∃ a b xs, x = .ref a ∧ y = .ref b ∧ SqL K H a xs ∧ SqL K H b xs ∧ (∀ v ∈ xs, ∃ t, v = V.ref t) ∧ Q (.bl false) H
theorem e_neI {K : PySem.W.Frag} {x y : V} {H : Hp} {Q : VK} : rNeI K x y H Q = ∃ a b xs, x = .ref a ∧ y = .ref b ∧ SqL K H a xs ∧ SqL K H b xs ∧ (∀ v ∈ xs, ∃ t, v = V.ref t) ∧ Q (.bl false) H := rfl
end
end L2

set_option Elab.async false
set_option maxRecDepth 100000
/-! A comprehension whose element may raise, in a def's body. -/
namespace L2
open PySem PySem.Spec PyProof.Rows
section
variable {M : Model} {A : Around} {E : Value → Shared → Prop} {s : Shared}
end
section
variable {X : Cx} {pins : List (Addr × Obj)} {σ : St} {H : Hp} {s : Shared}
end
section
variable {X : Cx} {pins : List (Addr × Obj)} {σ : St} {H2 : Hp} {s₂ : Shared} {scope : Scope} {ts N2 : List Str} {cl : List (Str × Addr)} {C D : Addr} {fp : List Addr}
end
end L2

set_option Elab.async false
set_option maxRecDepth 100000
/-! str.split(sep); what is split is what was joined; while. -/
namespace L2
open PySem PySem.Spec PyProof.Rows
section
variable {X : Cx}
def rSplit : V → List V → Hp → VK → Prop := fun x vs H Q => ∃ z y, x = .str z ∧ vs = [.str y] ∧ (y.length == 0) = false ∧ z.length ≤ sizeLine ∧ (Txt.split z y).length ≤ sizeLine ∧ ∀ l, H l = none → Q (.ref l) (upd H l (.lst ((Txt.split z y).map V.str)))
theorem e_split {x : V} {vs : List V} {H : Hp} {Q : VK} : rSplit x vs H Q = ∃ z y, x = .str z ∧ vs = [.str y] ∧ (y.length == 0) = false ∧ z.length ≤ sizeLine ∧ (Txt.split z y).length ≤ sizeLine ∧ ∀ l, H l = none → Q (.ref l) (upd H l (.lst ((Txt.split z y).map V.str))) := rfl
end
end L2
namespace L2
open PySem PySem.Spec PyProof.Rows
theorem e_while {c : TT} {tb : TS} {D : Ends} {σ : St} {H : Hp} : tWhile c tb D σ H = ∃ W : Nat → St → Hp → Prop, (∃ m, W m σ H) ∧ ∀ m σ H, W m σ H →
  c σ H fun b H1 => if b = true then ∃ N : St → Hp → Prop, (∀ σ' H', N σ' H' → ∃ m', m' < m ∧ W m' σ' H') ∧ tb { D with nx := N, ct := N, bk := D.nx } σ H1 else D.nx σ H1 := rfl
end L2
/-! a tuple that the module holds. -/
namespace L2
open PySem PySem.Spec PyProof.Rows
def TupIn (K : PySem.W.Frag) (mg : Str → Option Value) (name : Str) (xs : List V) : Prop := ∃ p, mg name = some (.ref p) ∧ ∀ H, SqT K H p xs
theorem tup_mk {K : PySem.W.Frag} {h : Heap} {mg : Str → Option Value} (X : K.In h) (G : h.Ns mainGlobals mg) {name : Str} {p : Addr} {od : Option Addr} {its : Array Value} {n : Nat} {osl : Array (Option Value)} {xs : List V} (e : PySem.W.nsIn K mainGlobals name = some (some (.ref p))) (l : K.lookup p = some ⟨.type "tuple", od, .seq its n, osl⟩) (hz : its.size ≤ sizeLine) (r : Vals xs its.toList) : TupIn K mg name xs :=
  ⟨p, PySem.W.mg_of X G e, fun H => .inr ⟨_, its, n, l, rfl, rfl, hz, r⟩⟩
def tGlT (K : PySem.W.Frag) (xs : List V) : TE := fun _ H Q => ∀ p, SqT K H p xs → Q (.ref p) H
theorem e_glT {K : PySem.W.Frag} {xs : List V} {σ : St} {H : Hp} {Q : VK} : tGlT K xs σ H Q = ∀ p, SqT K H p xs → Q (.ref p) H := rfl
end L2

set_option Elab.async false
set_option maxRecDepth 100000
/-! int(text). -/
namespace L2
open PySem PySem.Spec PyProof.Rows
def rIntS (xs : List V) (H : Hp) (Q : VK) : Prop := ∃ (x : Str) (n : Int), xs = [.str x] ∧ PySem.intText? x = some n ∧ x.length ≤ 640 ∧ Q (.int n) H
theorem e_intS {xs : List V} {H : Hp} {Q : VK} : rIntS xs H Q = ∃ (x : Str) (n : Int), xs = [.str x] ∧ PySem.intText? x = some n ∧ x.length ≤ 640 ∧ Q (.int n) H := rfl
section
variable {X : Cx}
end
/-! a part of a suite held back, so that what is shown stays small -/
section
variable {a b c d t e u : TS} {tc : TT} {D : Ends} {σ : L2.St} {H : Hp}
end
end L2

namespace Mine
open PySem PySem.Spec PyProof.Rows L2
def runs1 := And.intro @e_intS (And.intro @e_var (And.intro @e_C (And.intro @e_op (And.intro @e_un (And.intro @e_rI (And.intro @e_rI0 (And.intro @e_rU (And.intro @e_rEq (And.intro @e_rNe (And.intro @e_ixL (And.intro @e_ixT (And.intro @e_set (And.intro @e_cat (And.intro @e_test (And.intro @e_B (And.intro @e_and (And.intro @e_or (And.intro @e_not (And.intro @e_andV (And.intro @e_orV (And.intro @e_notV (And.intro @e_ifE (And.intro @e_all (And.intro @e_next (And.intro @e_seq (And.intro @e_brk (And.intro @e_cnt (And.intro @e_drop (And.intro @e_ret (And.intro @e_retN (And.intro @e_ifS (And.intro @e_asg (And.intro @e_gName (And.intro @e_setC (And.intro @e_augS (And.intro @e_ipI (And.intro @e_nil (And.intro @e_cons (And.intro @e_tup (And.intro @e_lst (And.intro @e_call (And.intro @e_CB (And.intro @e_BM (And.intro @e_app (And.intro @e_rng1 (And.intro @e_rng2 (And.intro @e_iL (And.intro @e_for (And.intro @e_comp (And.intro @cxK (And.intro @e_zip (And.intro @e_gTup (And.intro @e_gNil (And.intro @e_gCons (And.intro @e_rep (And.intro @e_gSub (And.intro @e_slL (And.intro @e_tSl (And.intro @e_noPart (And.intro @e_part (And.intro @e_rng3 (And.intro @e_dnew0 (And.intro @e_pop (And.intro @e_BM0 (And.intro @e_chain (And.intro @e_in (And.intro @e_enum (And.intro @e_minK (And.intro @e_callX (And.intro @e_raise (And.intro @e_tryAs (And.intro @e_try0 (And.intro @suK (And.intro @noxK (And.intro @tryK (And.intro @e_eqD (And.intro @e_inD (And.intro @e_iStr (And.intro @e_mulS (And.intro @e_ixS (And.intro @e_join (And.intro @e_rev (And.intro @e_clear (And.intro @e_popAt (And.intro @e_iT (And.intro @e_iSeq (And.intro @e_tupL (And.intro @e_disp (And.intro @e_pairs0 (And.intro @e_pairs (And.intro @e_minL (And.intro @e_maxL (And.intro @e_listRev (And.intro @e_listRng (And.intro @e_lenSet (And.intro @e_leS (And.intro @e_vI0 (And.intro @e_vI (And.intro @e_ints (And.intro @e_isB (And.intro @e_catH (And.intro @e_extend (And.intro @e_rngD (And.intro @e_slH (And.intro @e_slT (And.intro @e_indexT (And.intro @e_indexL (And.intro @e_inK (And.intro @e_setD (And.intro @e_dnewT (And.intro @e_dget (And.intro @e_zip3 (And.intro @e_zip2 (And.intro @e_BMT (And.intro @e_dictP (And.intro @e_maxK (And.intro @e_dictK (And.intro @e_eqK (And.intro @e_countT (And.intro @e_dg1 (And.intro @e_dg2 (And.intro @e_neI (And.intro @e_split (And.intro @e_while (@e_glT)))))))))))))))))))))))))))))))))))))))))))))))))))))))))))))))))))))))))))))))))))))))))))))))))))))))))))))))))))))))))))))
def top (i : Nat) : Stmt := PySem.Challenge.pw_trueword_k16_no_payments.main.body.getD i (.Pass ⟨0, 0, 0, 0⟩)
abbrev s_turn : Stmt := top 1
theorem sc_turn : FnScope ["grid", "s", "t"] ["grid", "s", "t"] (defScope s_turn) := ⟨rfl, rfl, rfl, by decide +kernel, rfl, by decide +kernel, by decide +kernel⟩
abbrev s_gain : Stmt := top 2
theorem sc_gain : FnScope ["grid", "pays", "t", "s"] ["grid", "pays", "t", "s"] (defScope s_gain) := ⟨rfl, rfl, rfl, by decide +kernel, rfl, by decide +kernel, by decide +kernel⟩
abbrev s_first_gain : Stmt := top 3
theorem sc_first_gain : FnScope ["grid", "pays", "t", "s", "more"] ["grid", "pays"] (defScope s_first_gain) := ⟨rfl, rfl, rfl, by decide +kernel, rfl, by decide +kernel, by decide +kernel⟩
abbrev s_total_of : Stmt := top 5
theorem sc_total_of : FnScope ["walk"] ["walk"] (defScope s_total_of) := ⟨rfl, rfl, rfl, by decide +kernel, rfl, by decide +kernel, by decide +kernel⟩
abbrev s_words_of : Stmt := top 6
theorem sc_words_of : FnScope ["walk"] ["walk"] (defScope s_words_of) := ⟨rfl, rfl, rfl, by decide +kernel, rfl, by decide +kernel, by decide +kernel⟩
abbrev s_walks_of_one_turn : Stmt := top 7
theorem sc_walks_of_one_turn : FnScope ["grid", "s"] ["grid", "s"] (defScope s_walks_of_one_turn) := ⟨rfl, rfl, rfl, by decide +kernel, rfl, by decide +kernel, by decide +kernel⟩
abbrev s_least_to : Stmt := top 8
theorem sc_least_to : FnScope ["grid", "walks", "t", "longer"] ["grid", "walks", "t"] (defScope s_least_to) := ⟨rfl, rfl, rfl, by decide +kernel, rfl, by decide +kernel, by decide +kernel⟩
abbrev s_lengthened : Stmt := top 9
theorem sc_lengthened : FnScope ["grid", "walks"] ["grid", "walks"] (defScope s_lengthened) := ⟨rfl, rfl, rfl, by decide +kernel, rfl, by decide +kernel, by decide +kernel⟩
abbrev s_after_a_turn : Stmt := top 10
theorem sc_after_a_turn : FnScope ["grid", "totals", "t"] ["grid", "totals", "t"] (defScope s_after_a_turn) := ⟨rfl, rfl, rfl, by decide +kernel, rfl, by decide +kernel, by decide +kernel⟩
abbrev s_has_honest : Stmt := top 11
theorem sc_has_honest : FnScope ["grid", "totals", "size"] ["grid"] (defScope s_has_honest) := ⟨rfl, rfl, rfl, by decide +kernel, rfl, by decide +kernel, by decide +kernel⟩
abbrev s_closed_below_zero : Stmt := top 12
theorem sc_closed_below_zero : FnScope ["rows", "s", "walks"] ["rows"] (defScope s_closed_below_zero) := ⟨rfl, rfl, rfl, by decide +kernel, rfl, by decide +kernel, by decide +kernel⟩
abbrev s_ring : Stmt := top 13
theorem sc_ring : FnScope ["grid", "rows", "size", "found"] ["grid"] (defScope s_ring) := ⟨rfl, rfl, rfl, by decide +kernel, rfl, by decide +kernel, by decide +kernel⟩
abbrev s_refuse_ring : Stmt := top 26
theorem sc_refuse_ring : FnScope ["grid"] ["grid"] (defScope s_refuse_ring) := ⟨rfl, rfl, rfl, by decide +kernel, rfl, by decide +kernel, by decide +kernel⟩
abbrev s_lesser : Stmt := top 27
theorem sc_lesser : FnScope ["walk", "longer"] ["walk", "longer"] (defScope s_lesser) := ⟨rfl, rfl, rfl, by decide +kernel, rfl, by decide +kernel, by decide +kernel⟩
abbrev s_least_roads : Stmt := top 28
theorem sc_least_roads : FnScope ["grid", "walks", "size"] ["grid", "walks"] (defScope s_least_roads) := ⟨rfl, rfl, rfl, by decide +kernel, rfl, by decide +kernel, by decide +kernel⟩
abbrev s_greatest : Stmt := top 30
theorem sc_greatest : FnScope ["grid", "walks"] ["grid"] (defScope s_greatest) := ⟨rfl, rfl, rfl, by decide +kernel, rfl, by decide +kernel, by decide +kernel⟩
abbrev s_mirrored_row : Stmt := top 31
theorem sc_mirrored_row : FnScope ["grid", "t"] ["grid", "t"] (defScope s_mirrored_row) := ⟨rfl, rfl, rfl, by decide +kernel, rfl, by decide +kernel, by decide +kernel⟩
abbrev s_mirrored : Stmt := top 32
theorem sc_mirrored : FnScope ["grid"] ["grid"] (defScope s_mirrored) := ⟨rfl, rfl, rfl, by decide +kernel, rfl, by decide +kernel, by decide +kernel⟩
abbrev s_least : Stmt := top 33
theorem sc_least : FnScope ["grid", "walks"] ["grid"] (defScope s_least) := ⟨rfl, rfl, rfl, by decide +kernel, rfl, by decide +kernel, by decide +kernel⟩
abbrev s_law_cell : Stmt := top 35
theorem sc_law_cell : FnScope ["script", "k"] ["script", "k"] (defScope s_law_cell) := ⟨rfl, rfl, rfl, by decide +kernel, rfl, by decide +kernel, by decide +kernel⟩
abbrev s_law_number : Stmt := top 36
theorem sc_law_number : FnScope ["cell", "top"] ["cell", "top"] (defScope s_law_number) := ⟨rfl, rfl, rfl, by decide +kernel, rfl, by decide +kernel, by decide +kernel⟩
abbrev s_law_pays : Stmt := top 38
theorem sc_law_pays : FnScope ["script", "many"] ["script", "many"] (defScope s_law_pays) := ⟨rfl, rfl, rfl, by decide +kernel, rfl, by decide +kernel, by decide +kernel⟩
abbrev s_law_priced : Stmt := top 39
theorem sc_law_priced : FnScope ["script", "many", "pays", "grid", "t", "cell", "own", "row", "s", "slack", "told"] ["script", "many"] (defScope s_law_priced) := ⟨rfl, rfl, rfl, by decide +kernel, rfl, by decide +kernel, by decide +kernel⟩
abbrev s_law_along : Stmt := top 42
theorem sc_law_along : FnScope ["grid", "words", "whole", "ahead", "word"] ["grid", "words"] (defScope s_law_along) := ⟨rfl, rfl, rfl, by decide +kernel, rfl, by decide +kernel, by decide +kernel⟩
abbrev s_law_words : Stmt := top 43
theorem sc_law_words : FnScope ["words", "many", "word"] ["words", "many"] (defScope s_law_words) := ⟨rfl, rfl, rfl, by decide +kernel, rfl, by decide +kernel, by decide +kernel⟩
abbrev s_law_ring : Stmt := top 45
theorem sc_law_ring : FnScope ["grid", "words"] ["grid", "words"] (defScope s_law_ring) := ⟨rfl, rfl, rfl, by decide +kernel, rfl, by decide +kernel, by decide +kernel⟩
abbrev s_law_refused : Stmt := top 46
theorem sc_law_refused : FnScope ["way", "grid", "told", "e", "others"] ["way", "grid"] (defScope s_law_refused) := ⟨rfl, rfl, rfl, by decide +kernel, rfl, by decide +kernel, by decide +kernel⟩
abbrev s_law_right : Stmt := top 47
theorem sc_law_right : FnScope ["grid", "found", "due"] ["grid"] (defScope s_law_right) := ⟨rfl, rfl, rfl, by decide +kernel, rfl, by decide +kernel, by decide +kernel⟩
abbrev s_law : Stmt := top 48
theorem sc_law : FnScope ["script", "many", "grid", "rest", "words", "k", "more", "kept"] ["script"] (defScope s_law) := ⟨rfl, rfl, rfl, by decide +kernel, rfl, by decide +kernel, by decide +kernel⟩
structure Bt (mg : Str → Option Value) : Prop where
  «ValueError» : mg "ValueError" = none
  «bool» : mg "bool" = none
  «enumerate» : mg "enumerate" = none
  «int» : mg "int" = none
  «isinstance» : mg "isinstance" = none
  «len» : mg "len" = none
  «list» : mg "list" = none
  «max» : mg "max" = none
  «min» : mg "min" = none
  «range» : mg "range" = none
  «reversed» : mg "reversed" = none
  «set» : mg "set" = none
  «zip» : mg "zip" = none
structure Ad where
  NoPays : Addr
  TrueError : Addr
  NoWord : Addr
  NoWeight : Addr
  NoStand : Addr
  NoShare : Addr
  NoRule : Addr
  NoRow : Addr
  NoMenu : Addr
  NoHouse : Addr
structure Ct (K : PySem.W.Frag) (mg : Str → Option Value) (a : Ad) : Prop where
  m_NoPays : mg "NoPays" = some (.ref a.NoPays)
  q_NoPays : ErrQ K a.NoPays
  v_NoPays : PySem.W.kitOne K (.ref a.NoPays) (.type "ValueError") = some true
  m_TrueError : mg "TrueError" = some (.ref a.TrueError)
  q_TrueError : ErrQ K a.TrueError
  m_NoWord : mg "NoWord" = some (.ref a.NoWord)
  m_NoWeight : mg "NoWeight" = some (.ref a.NoWeight)
  m_NoStand : mg "NoStand" = some (.ref a.NoStand)
  m_NoShare : mg "NoShare" = some (.ref a.NoShare)
  m_NoRule : mg "NoRule" = some (.ref a.NoRule)
  m_NoRow : mg "NoRow" = some (.ref a.NoRow)
  m_NoMenu : mg "NoMenu" = some (.ref a.NoMenu)
  m_NoHouse : mg "NoHouse" = some (.ref a.NoHouse)
  s_NoPays_NoPays : PySem.W.mroIn K a.NoPays (.ref a.NoPays) = some true
  k_NoPays_NoPays : PySem.W.kitOne K (.ref a.NoPays) (.ref a.NoPays) = some true
  s_NoPays_TrueError : PySem.W.mroIn K a.NoPays (.ref a.TrueError) = some true
  k_NoPays_TrueError : PySem.W.kitOne K (.ref a.NoPays) (.ref a.TrueError) = some true
  k_NoPays_NoWord : PySem.W.kitOne K (.ref a.NoPays) (.ref a.NoWord) = some false
  k_NoPays_NoWeight : PySem.W.kitOne K (.ref a.NoPays) (.ref a.NoWeight) = some false
  k_NoPays_NoStand : PySem.W.kitOne K (.ref a.NoPays) (.ref a.NoStand) = some false
  k_NoPays_NoShare : PySem.W.kitOne K (.ref a.NoPays) (.ref a.NoShare) = some false
  k_NoPays_NoRule : PySem.W.kitOne K (.ref a.NoPays) (.ref a.NoRule) = some false
  k_NoPays_NoRow : PySem.W.kitOne K (.ref a.NoPays) (.ref a.NoRow) = some false
  k_NoPays_NoMenu : PySem.W.kitOne K (.ref a.NoPays) (.ref a.NoMenu) = some false
  k_NoPays_NoHouse : PySem.W.kitOne K (.ref a.NoPays) (.ref a.NoHouse) = some false

/-! ### the data: a grid that was made, by its shape -/
structure NewGrid (H H' : Hp) (b : Addr) (bs : List Addr) (rows : List (List Int)) (k n : Nat) : Prop where
  same : Same H H'
  nb : H b = none
  nr : ∀ r ∈ bs, H r = none
  nd : bs.Nodup
  ne : b ∉ bs
  at' : H' b = some (.lst (bs.map V.ref))
  lb : bs.length = k
  lr : rows.length = k
  row : ∀ (i : Nat) (r : Addr) (ns : List Int), bs[i]? = some r → rows[i]? = some ns → H' r = some (.lst (ns.map V.int)) ∧ ns.length = n
theorem NewGrid.grid {K : PySem.W.Frag} {H H' : Hp} {b : Addr} {bs : List Addr} {rows : List (List Int)} {k n : Nat} (g : NewGrid H H' b bs rows k n) : GridL K H' b bs rows :=
  ⟨.of g.at', g.lb.trans g.lr.symm, fun i r ns e1 e2 => .of (g.row i r ns e1 e2).1⟩
theorem Same.upd {H H' : Hp} (s : Same H H') {a : Addr} {o : HO} (n : H a = none) : Same H (upd H' a o) := fun b u e => by
  rw [upd_ne (ne_of_none e n)]; exact s b u e
theorem NewGrid.nil {H H' : Hp} {b : Addr} {n : Nat} (s : Same H H') (nb : H' b = none) : NewGrid H (upd H' b (.lst [])) b [] [] 0 n :=
  ⟨Same.upd s (s.free nb), s.free nb, (fun _ z => nomatch z), List.nodup_nil, (fun z => nomatch z), upd_same, rfl, rfl, (fun i r ns e => by simp at e)⟩
/-- another thing is laid -/
theorem NewGrid.laid {H H' : Hp} {b c : Addr} {bs : List Addr} {rows : List (List Int)} {k n : Nat} {o : HO} (g : NewGrid H H' b bs rows k n) (nc : H' c = none) : NewGrid H (L2.upd H' c o) b bs rows k n :=
  ⟨Same.upd g.same (g.same.free nc), g.nb, g.nr, g.nd, g.ne, by rw [upd_ne (ne_of_none g.at' nc)]; exact g.at', g.lb, g.lr, fun i r ns e1 e2 => by
    obtain ⟨q, l⟩ := g.row i r ns e1 e2
    exact ⟨by rw [upd_ne (ne_of_none q nc)]; exact q, l⟩⟩
/-- a row is laid -/
theorem NewGrid.snoc {H H' : Hp} {b c : Addr} {bs : List Addr} {rows : List (List Int)} {k n : Nat} {ns : List Int} (g : NewGrid H H' b bs rows k n) (hn : H c = none) (hc : H' c = some (.lst (ns.map V.int))) (hl : ns.length = n) (hb : c ∉ bs) (hcb : c ≠ b) :
    NewGrid H (L2.upd H' b (.lst (bs.map V.ref ++ [.ref c]))) b (bs ++ [c]) (rows ++ [ns]) (k + 1) n := by
  refine ⟨Same.upd g.same g.nb, g.nb, fun r hr => ?_, ?_, ?_, ?_, by rw [List.length_append, g.lb]; rfl, by rw [List.length_append, g.lr]; rfl, fun i r ms e1 e2 => ?_⟩
  · rcases List.mem_append.mp hr with z | z
    · exact g.nr r z
    · rw [List.mem_singleton.mp z]; exact hn
  · refine List.nodup_append.mpr ⟨g.nd, by simp, fun x hx y hy => ?_⟩
    rw [List.mem_singleton.mp hy]
    rintro rfl
    exact hb hx
  · intro z
    rcases List.mem_append.mp z with z | z
    · exact g.ne z
    · exact hcb (List.mem_singleton.mp z).symm
  · rw [upd_same, List.map_append]; rfl
  · have nb' : ∀ r, r ∈ bs ++ [c] → r ≠ b := fun r hr => by
      rcases List.mem_append.mp hr with z | z
      · rintro rfl; exact g.ne z
      · rw [List.mem_singleton.mp z]; exact hcb
    have hr : r ∈ bs ++ [c] := List.mem_of_getElem? e1
    rw [upd_ne (nb' r hr)]
    by_cases hi : i < bs.length
    · rw [List.getElem?_append_left hi] at e1
      rw [List.getElem?_append_left (by rw [g.lr, ← g.lb]; exact hi)] at e2
      exact g.row i r ms e1 e2
    · have hi' : bs.length ≤ i := Nat.not_lt.mp hi
      rw [List.getElem?_append_right hi'] at e1
      rw [List.getElem?_append_right (by rw [g.lr, ← g.lb]; exact hi')] at e2
      have e0 : i - bs.length = 0 := by
        have := (List.getElem?_eq_some_iff.mp e1).1
        simp at this; omega
      rw [e0] at e1
      have e0' : i - rows.length = 0 := by rw [g.lr, ← g.lb]; exact e0
      rw [e0'] at e2
      simp at e1 e2
      subst e1 e2
      exact ⟨hc, hl⟩
/-- one place of one row is changed -/
theorem NewGrid.put {H H' : Hp} {b c : Addr} {bs : List Addr} {rows : List (List Int)} {k n j i : Nat} {ns : List Int} {v : Int} (g : NewGrid H H' b bs rows k n) (hi : bs[i]? = some c) (hr : rows[i]? = some ns) :
    NewGrid H (L2.upd H' c (.lst ((ns.map V.int).set j (.int v)))) b bs (rows.set i (ns.set j v)) k n := by
  have hm : c ∈ bs := List.mem_of_getElem? hi
  have hcb : b ≠ c := by rintro rfl; exact g.ne hm
  refine ⟨Same.upd g.same (g.nr c hm), g.nb, g.nr, g.nd, g.ne, by rw [upd_ne hcb]; exact g.at', g.lb, by rw [List.length_set]; exact g.lr, fun i' r ms e1 e2 => ?_⟩
  by_cases e : i' = i
  · subst e
    rw [hi] at e1; cases e1
    rw [List.getElem?_set_self (List.getElem?_eq_some_iff.mp hr).1] at e2
    cases e2
    refine ⟨by rw [upd_same, List.map_set], ?_⟩
    rw [List.length_set]
    exact (g.row _ c ns hi hr).2
  · have hrc : r ≠ c := by
      rintro rfl
      obtain ⟨h1, e1'⟩ := List.getElem?_eq_some_iff.mp e1
      obtain ⟨h2, e2'⟩ := List.getElem?_eq_some_iff.mp hi
      exact e ((List.getElem_inj g.nd).mp (e1'.trans e2'.symm))
    rw [List.getElem?_set_ne (Ne.symm e)] at e2
    rw [upd_ne hrc]
    exact g.row i' r ms e1 e2
theorem NewGrid.trans {H H1 H' : Hp} {b : Addr} {bs : List Addr} {rows : List (List Int)} {k n : Nat} (s : Same H H1) (g : NewGrid H1 H' b bs rows k n) : NewGrid H H' b bs rows k n :=
  ⟨s.trans g.same, s.free g.nb, fun r hr => s.free (g.nr r hr), g.nd, g.ne, g.at', g.lb, g.lr, g.row⟩

/-! ### the promises of the law's own helpers, as far as shapes go -/
def spCell (K : PySem.W.Frag) : Sp := fun vs H Q _ => ∃ (a : Addr) (ns : List Int) (k : Int), vs = [.ref a, .int k] ∧ SqL K H a (ns.map V.int) ∧ 0 ≤ k ∧ ∀ v : Int, Q (.int v) H
def spNumber : Sp := fun vs H Q _ => ∃ (c top : Int), vs = [.int c, .int top] ∧ 0 ≤ top ∧ ∀ v : Int, Q (.int v) H
def spPays (K : PySem.W.Frag) : Sp := fun vs H Q _ => ∃ (a : Addr) (ns : List Int) (n : Nat), vs = [.ref a, .int n] ∧ SqL K H a (ns.map V.int) ∧ n ≤ 8 ∧ ∀ (b : Addr) (ms : List Int), H b = none → ms.length = n → Q (.ref b) (upd H b (.lst (ms.map V.int)))
theorem not_row {H H' : Hp} {g r : Addr} {bs : List Addr} {rows : List (List Int)} {k n : Nat} (G : NewGrid H H' g bs rows k n) (hr : H' r = none) : r ∉ bs := fun z => by
  obtain ⟨j, hj, ej⟩ := List.getElem_of_mem z
  have hj' : j < rows.length := by rw [G.lr, ← G.lb]; exact hj
  have := (G.row j r rows[j] (by simp [hj, ej]) (by simp [hj'])).1
  rw [hr] at this; cases this
/-- a thing beside the grid is written -/
theorem NewGrid.write {H H' : Hp} {b c : Addr} {bs : List Addr} {rows : List (List Int)} {k n : Nat} {o : HO} (g : NewGrid H H' b bs rows k n) (nc : H c = none) (hb : c ∉ bs) (hcb : c ≠ b) : NewGrid H (L2.upd H' c o) b bs rows k n :=
  ⟨Same.upd g.same nc, g.nb, g.nr, g.nd, g.ne, by rw [upd_ne (Ne.symm hcb)]; exact g.at', g.lb, g.lr, fun i r ns e1 e2 => by
    obtain ⟨q, l⟩ := g.row i r ns e1 e2
    exact ⟨by rw [upd_ne (by rintro rfl; exact hb (List.mem_of_getElem? e1))]; exact q, l⟩⟩

def spLaw (K : PySem.W.Frag) : Sp := fun vs H Q _ => ∃ (a : Addr) (ns : List Int), vs = [.ref a] ∧ SqL K H a (ns.map V.int) ∧ ns.length ≤ 63 ∧ ∀ H', Q (.bl true) H'
theorem grid_row {K : PySem.W.Frag} {H : Hp} {g : Addr} {as : List Addr} {rows : List (List Int)} (G : GridL K H g as rows) {t : Nat} {ns : List Int} (h : rows[t]? = some ns) :
    ∃ r, atI (as.map V.ref) (t : Int) = some (V.ref r) ∧ SqL K H r (ns.map V.int) := by
  have ht : t < as.length := by rw [G.2.1]; exact (List.getElem?_eq_some_iff.mp h).1
  have e : as[t]? = some as[t] := by simp [ht]
  exact ⟨as[t], atI_nat (by rw [List.getElem?_map, e]; rfl), G.2.2 t _ ns e h⟩
theorem at_int {ns : List Int} {t : Nat} {x : Int} (h : ns[t]? = some x) : atI (ns.map V.int) (t : Int) = some (V.int x) := atI_nat (by rw [List.getElem?_map, h]; rfl)
theorem ixN_nat {n j : Nat} (h : j < n) : ixN n (j : Int) = some j := by
  unfold ixN
  rw [if_pos (by omega), if_pos (by omega)]
  simp
theorem kit_ii : kit0 "int" "int" = some true := by decide +kernel
theorem kit_ib : kit0 "int" "bool" = some false := by decide +kernel
theorem kit_ll : kit0 "list" "list" = some true := by decide +kernel
theorem law_binds {K : PySem.W.Frag} {f : Addr} {fd : FuncData} (F : Fun K "law" "law" s_law f fd) (s : Shared) (u : Value) : BindsTo s fd ⟨[u], []⟩ [("script", u)] := by
  obtain ⟨oc, od, kV, doc, pm, an, cdv, ct, osl, rfl, lk, hcd⟩ := F.ex
  exact .of_eq rfl
/-- a copy that grows, row by row -/
structure Copy (H1 H2 : Hp) (rows : List (List Int)) (i : Nat) (cs : List Addr) : Prop where
  same : Same H1 H2
  len : cs.length = i
  row : ∀ (j : Nat) (c : Addr) (ns : List Int), cs[j]? = some c → rows[j]? = some ns → H2 c = some (.lst (ns.map V.int))
theorem Copy.snoc {H1 H2 : Hp} {rows : List (List Int)} {i : Nat} {cs : List Addr} {l : Addr} {ns : List Int} (C : Copy H1 H2 rows i cs) (hl : H2 l = none) (e : rows[i]? = some ns) : Copy H1 (upd H2 l (.lst (ns.map V.int))) rows (i + 1) (cs ++ [l]) := by
  refine ⟨Same.upd C.same (C.same.free hl), by rw [List.length_append, C.len]; rfl, fun j c ms e1 e2 => ?_⟩
  by_cases hj : j < cs.length
  · rw [List.getElem?_append_left hj] at e1
    have q := C.row j c ms e1 e2
    rw [upd_ne (ne_of_none q hl)]; exact q
  · have hj' : cs.length ≤ j := Nat.not_lt.mp hj
    rw [List.getElem?_append_right hj'] at e1
    have h0 : j - cs.length = 0 := by
      have := (List.getElem?_eq_some_iff.mp e1).1
      simp at this; omega
    rw [h0] at e1
    simp at e1
    subst e1
    have hji : j = i := by rw [← C.len]; omega
    subst hji
    rw [e] at e2; cases e2
    exact upd_same
theorem GridL.mono {K : PySem.W.Frag} {H H' : Hp} {g : Addr} {as : List Addr} {rows : List (List Int)} (S : Same H H') (G : GridL K H g as rows) : GridL K H' g as rows := ⟨S.seq G.1, G.2.1, fun i r ns e1 e2 => S.seq (G.2.2 i r ns e1 e2)⟩
theorem NewGrid.width {H H' : Hp} {b : Addr} {bs : List Addr} {rows : List (List Int)} {n : Nat} (G : NewGrid H H' b bs rows n n) : ∀ i : Nat, i < n → ∃ ns : List Int, rows[i]? = some ns ∧ ns.length = n := fun i hi => by
  have hr2 : i < rows.length := by rw [G.lr]; exact hi
  have hb2 : i < bs.length := by rw [G.lb]; exact hi
  exact ⟨rows[i], by simp [hr2], (G.row i bs[i] rows[i] (by simp [hb2]) (by simp [hr2])).2⟩
section
variable {P : Program} {w : World} {K : PySem.W.Frag} {mg : Str → Option Value} {base : Heap}
set_option maxHeartbeats 4000000
theorem f_law_cell (B : Bt mg) (D : DefIn K mg "_law_cell" s_law_cell ["script", "k"]) : FnAt P w K mg base "_law_cell" 1 ["script", "k"] (spCell K) := by
  refine FnAt.of D sc_law_cell (fun vs H Q E h => ?_) (fun f cdv A outer s H vs Q E hr h => ?_)
  · obtain ⟨a, ns, k, rfl, _⟩ := h
    rfl
  · obtain ⟨a, ns, k, rfl, hS, hk, q⟩ := h
    refine ⟨_, (@pss_cons _ _ _ _ _ (@ps_if _ _ _ _ _ _ _ _ (@pt_cmpR _ _ _ _ _ _ _ _ op_lt (pv 1) (pe_callB call_len_seq rfl B.len bt_len (pa_cons (pv 0) (@pa_nil _))) (nomark _)) (@pss_one _ _ _ (@ps_ret _ _ _ _ (@pe_ix _ _ _ _ _ _ _ ix_list (pv 0) (pv 1) (fun _ _ => rfl)))) (@pss_nil _)) (@pss_one _ _ _ (@ps_ret _ _ _ _ (@pe_int _ _ _ _)))), ?_⟩
    rw [show start ["script", "k"] [V.ref a, V.int k] = [some (V.ref a), some (V.int k)] from rfl]
    simp only [runs1, List.length_cons, List.length_nil, Nat.zero_add, List.replicate_succ, List.replicate_zero, List.drop_succ_cons, List.drop_zero, Int.zero_add, List.getElem?_cons_zero, List.getElem?_cons_succ, List.set_cons_zero, List.set_cons_succ, Option.some.injEq, V.int.injEq, V.ref.injEq, V.bl.injEq, V.ty.injEq, V.str.injEq, List.cons.injEq, List.append_nil, List.cons_append, List.nil_append, exists_eq, exists_eq', exists_eq_left, exists_eq_left', exists_and_left, exists_and_right, and_assoc, true_and, and_true, ↓reduceIte]
    refine ⟨ns.map V.int, .inl hS, ?_⟩
    rw [List.length_map]
    refine ite2 (fun h => ?_) (fun h => ?_)
    · have h' : k < ns.length := of_decide_eq_true h
      have hlt : k.toNat < ns.length := by omega
      have e : ns[k.toNat]? = some ns[k.toNat] := by simp [hlt]
      have e2 := atI_nat (xs := ns.map V.int) (j := k.toNat) (v := V.int ns[k.toNat]) (by rw [List.getElem?_map, e]; rfl)
      rw [Int.toNat_of_nonneg hk] at e2
      exact ⟨ns.map V.int, hS, _, e2, q _⟩
    · exact q 0
theorem f_law_number (D : DefIn K mg "_law_number" s_law_number ["cell", "top"]) : FnAt P w K mg base "_law_number" 1 ["cell", "top"] spNumber := by
  refine FnAt.of D sc_law_number (fun vs H Q E h => ?_) (fun f cdv A outer s H vs Q E hr h => ?_)
  · obtain ⟨c, top, rfl, _⟩ := h
    rfl
  · obtain ⟨c, top, rfl, ht, q⟩ := h
    refine ⟨_, (@pss_cons _ _ _ _ _ (@ps_if _ _ _ _ _ _ _ _ (@pt_cmpR _ _ _ _ _ _ _ _ op_eq (@pe_op _ _ _ _ _ _ _ _ op_mod (pv 0) (@pe_int _ _ _ _)) (@pe_int _ _ _ _) (nomark _)) (@pss_one _ _ _ (@ps_ret _ _ _ _ (@pe_op _ _ _ _ _ _ _ _ op_sub (@pe_op _ _ _ _ _ _ _ _ op_mod (@pe_op _ _ _ _ _ _ _ _ op_fdiv (pv 0) (@pe_int _ _ _ _)) (@pe_int _ _ _ _)) (@pe_int _ _ _ _)))) (@pss_nil _)) (@pss_cons _ _ _ _ _ (@ps_if _ _ _ _ _ _ _ _ (@pt_cmpR _ _ _ _ _ _ _ _ op_eq (@pe_op _ _ _ _ _ _ _ _ op_mod (pv 0) (@pe_int _ _ _ _)) (@pe_int _ _ _ _) (nomark _)) (@pss_one _ _ _ (@ps_ret _ _ _ _ (@pe_op _ _ _ _ _ _ _ _ op_sub (@pe_op _ _ _ _ _ _ _ _ op_mod (@pe_op _ _ _ _ _ _ _ _ op_fdiv (pv 0) (@pe_int _ _ _ _)) (@pe_int _ _ _ _)) (@pe_int _ _ _ _)))) (@pss_nil _)) (@pss_cons _ _ _ _ _ (@ps_if _ _ _ _ _ _ _ _ (@pt_cmpR _ _ _ _ _ _ _ _ op_eq (@pe_op _ _ _ _ _ _ _ _ op_mod (pv 0) (@pe_int _ _ _ _)) (@pe_int _ _ _ _) (nomark _)) (@pss_one _ _ _ (@ps_ret _ _ _ _ (@pe_op _ _ _ _ _ _ _ _ op_sub (@pe_op _ _ _ _ _ _ _ _ op_mod (@pe_op _ _ _ _ _ _ _ _ op_fdiv (pv 0) (@pe_int _ _ _ _)) (@pe_op _ _ _ _ _ _ _ _ op_mul (@pe_int _ _ _ _) (@pe_op _ _ _ _ _ _ _ _ op_pow (@pe_int _ _ _ _) (@pe_int _ _ _ _)))) (@pe_op _ _ _ _ _ _ _ _ op_pow (@pe_int _ _ _ _) (@pe_int _ _ _ _))))) (@pss_nil _)) (@pss_one _ _ _ (@ps_ret _ _ _ _ (@pe_op _ _ _ _ _ _ _ _ op_sub (@pe_op _ _ _ _ _ _ _ _ op_mod (@pe_op _ _ _ _ _ _ _ _ op_fdiv (pv 0) (@pe_int _ _ _ _)) (@pe_op _ _ _ _ _ _ _ _ op_add (@pe_op _ _ _ _ _ _ _ _ op_mul (@pe_int _ _ _ _) (pv 1)) (@pe_int _ _ _ _))) (pv 1))))))), ?_⟩
    rw [show start ["cell", "top"] [V.int c, V.int top] = [some (V.int c), some (V.int top)] from rfl]
    simp only [runs1, List.length_cons, List.length_nil, Nat.zero_add, List.replicate_succ, List.replicate_zero, List.drop_succ_cons, List.drop_zero, Int.zero_add, List.getElem?_cons_zero, List.getElem?_cons_succ, List.set_cons_zero, List.set_cons_succ, Option.some.injEq, V.int.injEq, V.ref.injEq, V.bl.injEq, V.ty.injEq, V.str.injEq, List.cons.injEq, List.append_nil, List.cons_append, List.nil_append, exists_eq, exists_eq', exists_eq_left, exists_eq_left', exists_and_left, exists_and_right, and_assoc, true_and, and_true, ↓reduceIte]
    exact ⟨by decide, rfl, ite2 (fun _ => ⟨⟨by decide, by decide⟩, by decide, q _⟩) fun _ => ⟨by decide, rfl, ite2 (fun _ => ⟨⟨by decide, by decide⟩, by decide, q _⟩) fun _ => ⟨by decide, rfl, ite2 (fun _ =>
      ⟨⟨by decide, by decide⟩, ⟨by decide, by decide, by decide⟩, .inl ⟨by decide, by decide⟩, by decide, ⟨by decide, by decide, by decide⟩, q _⟩) fun _ => ⟨⟨by decide, by decide⟩, .inl ⟨by decide, by decide⟩, by omega, q _⟩⟩⟩⟩
theorem f_law_pays (B : Bt mg) (f_law_cell : FnAt P w K mg base "_law_cell" 1 ["script", "k"] (spCell K)) (f_law_number : FnAt P w K mg base "_law_number" 1 ["cell", "top"] spNumber)
    (D : DefIn K mg "_law_pays" s_law_pays ["script", "many"]) : FnAt P w K mg base "_law_pays" 2 ["script", "many"] (spPays K) := by
  refine FnAt.of D sc_law_pays (fun vs H Q E h => ?_) (fun f cdv A outer s H vs Q E hr h => ?_)
  · obtain ⟨a, ns, n, rfl, _⟩ := h
    rfl
  · obtain ⟨a, ns, n, rfl, hS, hn, q⟩ := h
    refine ⟨_, (@pss_one _ _ _ (@ps_ret _ _ _ _ (pe_comp ["t"] ["script", "many"] rfl (pi_range1 rfl B.range (pa_cons (pv 1) (@pa_nil _))) (fun _ => (pg_name (i := 0) (show (["t", "script", "many"] : List Str).Nodup by decide +kernel) rfl (Or.inl rfl))) (fun _ => (@pts_nil _)) (fun _ => (pe_callA f_law_number (hr.mono (by decide)) rfl (pa_cons (pe_callA f_law_cell (hr.mono (by decide)) rfl (pa_cons (pv 1) (pa_cons (@pe_op _ _ _ _ _ _ _ _ op_add (@pe_int _ _ _ _) (pv 0)) (@pa_nil _)))) (pa_cons (@pe_op _ _ _ _ _ _ _ _ op_pow (@pe_int _ _ _ _) (@pe_int _ _ _ _)) (@pa_nil _))))) rfl (by decide +kernel) rfl rfl))), ?_⟩
    rw [show start ["script", "many"] [V.ref a, V.int n] = [some (V.ref a), some (V.int n)] from rfl]
    simp only [runs1, List.length_cons, List.length_nil, Nat.zero_add, List.replicate_succ, List.replicate_zero, List.drop_succ_cons, List.drop_zero, Int.zero_add, List.getElem?_cons_zero, List.getElem?_cons_succ, List.set_cons_zero, List.set_cons_succ, Option.some.injEq, V.int.injEq, V.ref.injEq, V.bl.injEq, V.ty.injEq, V.str.injEq, List.cons.injEq, List.append_nil, List.cons_append, List.nil_append, exists_eq, exists_eq', exists_eq_left, exists_eq_left', exists_and_left, exists_and_right, and_assoc, true_and, and_true, ↓reduceIte]
    refine ⟨by omega, by omega, fun d => ?_⟩
    rw [Int.toNat_natCast]
    refine comp_range (fun i ys H' => H' = H ∧ ∃ ms : List Int, ys = ms.map V.int ∧ ms.length = i) ⟨rfl, [], rfl, rfl⟩ ?_ ?_ ?_
    · rintro i ys H' hi ⟨rfl, ms, rfl, hl⟩
      rw [List.length_map, hl]
      exact Nat.le_trans hi (Nat.le_trans hn (by decide))
    · rintro i ys H' hi ⟨rfl, ms, rfl, hl⟩
      simp only [runs1, List.length_cons, List.length_nil, Nat.zero_add, List.replicate_succ, List.replicate_zero, List.drop_succ_cons, List.drop_zero, Int.zero_add, List.getElem?_cons_zero, List.getElem?_cons_succ, List.set_cons_zero, List.set_cons_succ, Option.some.injEq, V.int.injEq, V.ref.injEq, V.bl.injEq, V.ty.injEq, V.str.injEq, List.cons.injEq, List.append_nil, List.cons_append, List.nil_append, exists_eq, exists_eq', exists_eq_left, exists_eq_left', exists_and_left, exists_and_right, and_assoc, true_and, and_true, ↓reduceIte]
      refine ⟨a, ns, _, rfl, hS, by omega, fun v => ⟨⟨by decide, by decide, by decide⟩, v, _, rfl, by decide, fun v2 => ⟨rfl, ms ++ [v2], by simp, by simp [hl]⟩⟩⟩
    · rintro ys H' ⟨rfl, ms, rfl, hl⟩ l hl'
      exact q l ms hl' hl
end

def spTurn (K : PySem.W.Frag) : Sp := fun vs H Q _ => ∃ (g : Addr) (as : List Addr) (rows : List (List Int)) (s t : Nat) (ns : List Int) (x y : Int), vs = [.ref g, .int s, .int t] ∧ GridL K H g as rows ∧ rows[t]? = some ns ∧ ns[t]? = some x ∧ ns[s]? = some y ∧ Q (.int (x - y)) H
def cellA (rows : List (List Int)) (t s : Nat) : Int := (rows.getD t []).getD s 0
def gainA (rows : List (List Int)) (ps : List Int) (t s : Nat) : Int := ps.getD t 0 - ps.getD s 0 - (cellA rows t t - cellA rows t s)
def Square (rows : List (List Int)) (n : Nat) : Prop := ∀ i : Nat, i < n → ∃ ns : List Int, rows[i]? = some ns ∧ ns.length = n
theorem cell_at {rows : List (List Int)} {t s : Nat} {ns : List Int} (h : rows[t]? = some ns) (hs : s < ns.length) : ns[s]? = some (cellA rows t s) := by
  unfold cellA
  rw [List.getD_eq_getElem?_getD, List.getD_eq_getElem?_getD, h]
  simp [hs]
theorem pay_at {ps : List Int} {t : Nat} (h : t < ps.length) : ps[t]? = some (ps.getD t 0) := by
  rw [List.getD_eq_getElem?_getD]; simp [h]
def spGain1 (K : PySem.W.Frag) : Sp := fun vs H Q _ => ∃ (g p : Addr) (as : List Addr) (rows : List (List Int)) (ps : List Int) (n s t : Nat), vs = [.ref g, .ref p, .int t, .int s] ∧ GridL K H g as rows ∧ SqL K H p (ps.map V.int) ∧ ps.length = n ∧ Square rows n ∧ s < n ∧ t < n ∧ Q (.int (gainA rows ps t s)) H
/-- which is the first gain -/
def First (rows : List (List Int)) (ps : List Int) (n : Nat) : Option (Nat × Nat) → Prop
  | none => ∀ t s : Nat, t < n → s < n → gainA rows ps t s ≤ 0
  | some (t, s) => t < n ∧ s < n ∧ 0 < gainA rows ps t s ∧ ∀ t' s' : Nat, t' < n → s' < n → (t' < t ∨ (t' = t ∧ s' < s)) → gainA rows ps t' s' ≤ 0
theorem First.one {rows : List (List Int)} {ps : List Int} {n : Nat} {r r' : Option (Nat × Nat)} (h : First rows ps n r) (h' : First rows ps n r') : r = r' := by
  match r, r', h, h' with
  | none, none, _, _ => rfl
  | none, some (t, s), h, h' => have := h t s h'.1 h'.2.1; have := h'.2.2.1; omega
  | some (t, s), none, h, h' => have := h' t s h.1 h.2.1; have := h.2.2.1; omega
  | some (t, s), some (t', s'), h, h' =>
    have a1 := h.2.2.2 t' s' h'.1 h'.2.1
    have a2 := h'.2.2.2 t s h.1 h.2.1
    have b1 := h.2.2.1
    have b2 := h'.2.2.1
    by_cases e : t = t'
    · subst e
      by_cases e2 : s = s'
      · subst e2; rfl
      · exfalso
        rcases Nat.lt_or_gt_of_ne e2 with z | z
        · have := a2 (.inr ⟨rfl, z⟩); omega
        · have := a1 (.inr ⟨rfl, z⟩); omega
    · exfalso
      rcases Nat.lt_or_gt_of_ne e with z | z
      · have := a2 (.inl z); omega
      · have := a1 (.inl z); omega
def spFG (K : PySem.W.Frag) : Sp := fun vs H Q _ => ∃ (g p : Addr) (as : List Addr) (rows : List (List Int)) (ps : List Int) (n : Nat), vs = [.ref g, .ref p] ∧ GridL K H g as rows ∧ as.length = n ∧ SqL K H p (ps.map V.int) ∧ ps.length = n ∧ n ≤ 8 ∧ Square rows n ∧
  (First rows ps n none → Q .non H) ∧ ∀ t s : Nat, First rows ps n (some (t, s)) → ∀ l, H l = none → Q (.ref l) (upd H l (.tup [.int t, .int s, .int (gainA rows ps t s)]))
def PvFG (g p : Addr) (rows : List (List Int)) (ps : List Int) (n : Nat) (k : Nat) (H : Hp) (i : Nat) (σ : L2.St) (H4 : Hp) : Prop := H4 = H ∧ (∃ vs : List (Option V), vs.length = k ∧ σ = some (.ref g) :: some (.ref p) :: vs) ∧ ∀ t s : Nat, t < i → s < n → gainA rows ps t s ≤ 0
def PvFG2 (g p : Addr) (rows : List (List Int)) (ps : List Int) (n : Nat) (k : Nat) (H : Hp) (t : Nat) (j : Nat) (σ : L2.St) (H4 : Hp) : Prop := H4 = H ∧ (∃ vs : List (Option V), vs.length = k ∧ σ = some (.ref g) :: some (.ref p) :: some (.int t) :: vs) ∧ ∀ s : Nat, s < j → gainA rows ps t s ≤ 0
section
variable {P : Program} {w : World} {K : PySem.W.Frag} {mg : Str → Option Value} {base : Heap}
set_option maxHeartbeats 4000000
theorem f_turn (D : DefIn K mg "turn" s_turn ["grid", "s", "t"]) : FnAt P w K mg base "turn" 1 ["grid", "s", "t"] (spTurn K) := by
  refine FnAt.of D sc_turn (fun vs H Q E h => ?_) (fun f cdv A outer s H vs Q E hr h => ?_)
  · obtain ⟨g, as, rows, s, t, ns, x, y, rfl, _⟩ := h
    rfl
  · obtain ⟨g, as, rows, s, t, ns, x, y, rfl, G, h1, h2, h3, q⟩ := h
    refine ⟨_, (@pss_one _ _ _ (@ps_ret _ _ _ _ (@pe_op _ _ _ _ _ _ _ _ op_sub (@pe_ix _ _ _ _ _ _ _ ix_list (@pe_ix _ _ _ _ _ _ _ ix_list (pv 0) (pv 2) (fun _ _ => rfl)) (pv 2) (fun _ _ => rfl)) (@pe_ix _ _ _ _ _ _ _ ix_list (@pe_ix _ _ _ _ _ _ _ ix_list (pv 0) (pv 2) (fun _ _ => rfl)) (pv 1) (fun _ _ => rfl))))), ?_⟩
    rw [show start ["grid", "s", "t"] [V.ref g, V.int s, V.int t] = [some (V.ref g), some (V.int s), some (V.int t)] from rfl]
    simp only [runs1, List.length_cons, List.length_nil, Nat.zero_add, List.replicate_succ, List.replicate_zero, List.drop_succ_cons, List.drop_zero, Int.zero_add, List.getElem?_cons_zero, List.getElem?_cons_succ, List.set_cons_zero, List.set_cons_succ, Option.some.injEq, V.int.injEq, V.ref.injEq, V.bl.injEq, V.ty.injEq, V.str.injEq, List.cons.injEq, List.append_nil, List.cons_append, List.nil_append, exists_eq, exists_eq', exists_eq_left, exists_eq_left', exists_and_left, exists_and_right, and_assoc, true_and, and_true, ↓reduceIte]
    obtain ⟨r, e1, e2⟩ := grid_row G h1
    exact ⟨_, G.1, _, e1, r, rfl, _, e2, _, at_int h2, _, G.1, _, e1, r, rfl, _, e2, _, at_int h3, _, rfl, _, rfl, q⟩
theorem f_gain (f_turn : FnAt P w K mg base "turn" 1 ["grid", "s", "t"] (spTurn K)) (D : DefIn K mg "gain" s_gain ["grid", "pays", "t", "s"]) : FnAt P w K mg base "gain" 2 ["grid", "pays", "t", "s"] (spGain1 K) := by
  refine FnAt.of D sc_gain (fun vs H Q E h => ?_) (fun f cdv A outer s H vs Q E hr h => ?_)
  · obtain ⟨g, p, as, rows, ps, n, s, t, rfl, _⟩ := h
    rfl
  · obtain ⟨g, p, as, rows, ps, n, s, t, rfl, G, hp, lp, hw, hs, ht, q⟩ := h
    refine ⟨_, (@pss_one _ _ _ (@ps_ret _ _ _ _ (@pe_op _ _ _ _ _ _ _ _ op_sub (@pe_op _ _ _ _ _ _ _ _ op_sub (@pe_ix _ _ _ _ _ _ _ ix_list (pv 1) (pv 2) (fun _ _ => rfl)) (@pe_ix _ _ _ _ _ _ _ ix_list (pv 1) (pv 3) (fun _ _ => rfl))) (pe_callA f_turn (hr.mono (by decide)) rfl (pa_cons (pv 0) (pa_cons (pv 3) (pa_cons (pv 2) (@pa_nil _)))))))), ?_⟩
    rw [show start ["grid", "pays", "t", "s"] [V.ref g, V.ref p, V.int t, V.int s] = [some (V.ref g), some (V.ref p), some (V.int t), some (V.int s)] from rfl]
    simp only [runs1, List.length_cons, List.length_nil, Nat.zero_add, List.replicate_succ, List.replicate_zero, List.drop_succ_cons, List.drop_zero, Int.zero_add, List.getElem?_cons_zero, List.getElem?_cons_succ, List.set_cons_zero, List.set_cons_succ, Option.some.injEq, V.int.injEq, V.ref.injEq, V.bl.injEq, V.ty.injEq, V.str.injEq, List.cons.injEq, List.append_nil, List.cons_append, List.nil_append, exists_eq, exists_eq', exists_eq_left, exists_eq_left', exists_and_left, exists_and_right, and_assoc, true_and, and_true, ↓reduceIte]
    obtain ⟨ns, e1, l1⟩ := hw t ht
    refine ⟨_, hp, _, at_int (pay_at (by omega)), _, hp, _, at_int (pay_at (by omega)), _, rfl, _, rfl, g, as, rows, s, t, ns, _, _, rfl, G, e1, cell_at e1 (by omega), cell_at e1 (by omega), ?_⟩
    simp only [runs1, List.length_cons, List.length_nil, Nat.zero_add, List.replicate_succ, List.replicate_zero, List.drop_succ_cons, List.drop_zero, Int.zero_add, List.getElem?_cons_zero, List.getElem?_cons_succ, List.set_cons_zero, List.set_cons_succ, Option.some.injEq, V.int.injEq, V.ref.injEq, V.bl.injEq, V.ty.injEq, V.str.injEq, List.cons.injEq, List.append_nil, List.cons_append, List.nil_append, exists_eq, exists_eq', exists_eq_left, exists_eq_left', exists_and_left, exists_and_right, and_assoc, true_and, and_true, ↓reduceIte]
    exact q
theorem f_first_gain (B : Bt mg) (f_gain : FnAt P w K mg base "gain" 2 ["grid", "pays", "t", "s"] (spGain1 K)) (D : DefIn K mg "first_gain" s_first_gain ["grid", "pays"]) : FnAt P w K mg base "first_gain" 3 ["grid", "pays"] (spFG K) := by
  refine FnAt.of D sc_first_gain (fun vs H Q E h => ?_) (fun f cdv A outer s H vs Q E hr h => ?_)
  · obtain ⟨g, p, as, rows, ps, n, rfl, _⟩ := h
    rfl
  · obtain ⟨g, p, as, rows, ps, n, rfl, G, la, hp, lp, hn, hw, q0, q1⟩ := h
    refine ⟨_, (@pss_cons _ _ _ _ _ (ps_for PassesOwn.never rfl (pi_range1 rfl B.range (pa_cons (pe_callB call_len_seq rfl B.len bt_len (pa_cons (pv 0) (@pa_nil _))) (@pa_nil _))) (pg_name (i := 2) sc_first_gain.nd rfl (Or.inl rfl)) (@pss_one _ _ _ (ps_for PassesOwn.never rfl (pi_range1 rfl B.range (pa_cons (pe_callB call_len_seq rfl B.len bt_len (pa_cons (pv 0) (@pa_nil _))) (@pa_nil _))) (pg_name (i := 3) sc_first_gain.nd rfl (Or.inl rfl)) (@pss_cons _ _ _ _ _ (ps_set (i := 4) sc_first_gain.nd rfl (Or.inl rfl) (pe_callA f_gain (hr.mono (by decide)) rfl (pa_cons (pv 0) (pa_cons (pv 1) (pa_cons (pv 2) (pa_cons (pv 3) (@pa_nil _))))))) (@pss_one _ _ _ (@ps_if _ _ _ _ _ _ _ _ (@pt_cmpR _ _ _ _ _ _ _ _ op_gt (pv 4) (@pe_int _ _ _ _) (nomark _)) (@pss_one _ _ _ (@ps_ret _ _ _ _ (@pe_tup _ _ _ _ _ (pa_cons (pv 2) (pa_cons (pv 3) (pa_cons (pv 4) (@pa_nil _))))))) (@pss_nil _))))))) (@pss_one _ _ _ (@ps_ret _ _ _ _ (@pe_non _ _ _)))), ?_⟩
    rw [show start ["grid", "pays", "t", "s", "more"] [V.ref g, V.ref p] = [some (V.ref g), some (V.ref p), none, none, none] from rfl]
    simp only [runs1, List.length_cons, List.length_nil, Nat.zero_add, List.replicate_succ, List.replicate_zero, List.drop_succ_cons, List.drop_zero, Int.zero_add, List.getElem?_cons_zero, List.getElem?_cons_succ, List.set_cons_zero, List.set_cons_succ, Option.some.injEq, V.int.injEq, V.ref.injEq, V.bl.injEq, V.ty.injEq, V.str.injEq, List.cons.injEq, List.append_nil, List.cons_append, List.nil_append, exists_eq, exists_eq', exists_eq_left, exists_eq_left', exists_and_left, exists_and_right, and_assoc, true_and, and_true, ↓reduceIte]
    refine ⟨_, .inl G.1, ?_⟩
    rw [List.length_map, la]
    refine ⟨by omega, by omega, ?_⟩
    rw [Int.toNat_natCast]
    refine for_range (PvFG g p rows ps n 3 H) ⟨rfl, ⟨_, rfl, rfl⟩, fun t s h => by omega⟩ ?_ ?_
    · rintro i σ H4 hi ⟨rfl, ⟨vs, lv, rfl⟩, no⟩
      match vs, lv with
      | [v2, v3, v4], _ =>
      simp only [runs1, List.length_cons, List.length_nil, Nat.zero_add, List.replicate_succ, List.replicate_zero, List.drop_succ_cons, List.drop_zero, Int.zero_add, List.getElem?_cons_zero, List.getElem?_cons_succ, List.set_cons_zero, List.set_cons_succ, Option.some.injEq, V.int.injEq, V.ref.injEq, V.bl.injEq, V.ty.injEq, V.str.injEq, List.cons.injEq, List.append_nil, List.cons_append, List.nil_append, exists_eq, exists_eq', exists_eq_left, exists_eq_left', exists_and_left, exists_and_right, and_assoc, true_and, and_true, ↓reduceIte]
      refine ⟨_, .inl G.1, ?_⟩
      rw [List.length_map, la]
      refine ⟨by omega, by omega, ?_⟩
      rw [Int.toNat_natCast]
      refine for_range (PvFG2 g p rows ps n 2 H4 i) ⟨rfl, ⟨_, rfl, rfl⟩, fun s h => by omega⟩ ?_ ?_
      · rintro j σ H5 hj ⟨rfl, ⟨vs, lv, rfl⟩, no2⟩
        match vs, lv with
        | [v3, v4], _ =>
        simp only [runs1, List.length_cons, List.length_nil, Nat.zero_add, List.replicate_succ, List.replicate_zero, List.drop_succ_cons, List.drop_zero, Int.zero_add, List.getElem?_cons_zero, List.getElem?_cons_succ, List.set_cons_zero, List.set_cons_succ, Option.some.injEq, V.int.injEq, V.ref.injEq, V.bl.injEq, V.ty.injEq, V.str.injEq, List.cons.injEq, List.append_nil, List.cons_append, List.nil_append, exists_eq, exists_eq', exists_eq_left, exists_eq_left', exists_and_left, exists_and_right, and_assoc, true_and, and_true, ↓reduceIte]
        refine ⟨g, p, as, rows, ps, n, j, i, rfl, G, hp, lp, hw, hj, hi, ?_⟩
        simp only [runs1, List.length_cons, List.length_nil, Nat.zero_add, List.replicate_succ, List.replicate_zero, List.drop_succ_cons, List.drop_zero, Int.zero_add, List.getElem?_cons_zero, List.getElem?_cons_succ, List.set_cons_zero, List.set_cons_succ, Option.some.injEq, V.int.injEq, V.ref.injEq, V.bl.injEq, V.ty.injEq, V.str.injEq, List.cons.injEq, List.append_nil, List.cons_append, List.nil_append, exists_eq, exists_eq', exists_eq_left, exists_eq_left', exists_and_left, exists_and_right, and_assoc, true_and, and_true, ↓reduceIte]
        refine ite2 (fun h => ?_) fun h => ?_
        · refine ⟨by decide, q1 i j ⟨hi, hj, of_decide_eq_true h, fun t' s' h1 h2 h3 => ?_⟩⟩
          rcases h3 with z | ⟨rfl, z⟩
          · exact no t' s' z h2
          · exact no2 s' z
        · refine ⟨rfl, ⟨_, rfl, rfl⟩, fun s hs => ?_⟩
          by_cases e : s = j
          · subst e
            exact Int.not_lt.mp fun z => h (decide_eq_true z)
          · exact no2 s (by omega)
      · rintro σ H5 ⟨rfl, ⟨vs, lv, rfl⟩, no2⟩
        refine ⟨rfl, ⟨_, by simp [lv], rfl⟩, fun t s ht hs => ?_⟩
        by_cases e : t = i
        · subst e; exact no2 s hs
        · exact no t s (by omega) hs
    · rintro σ H4 ⟨rfl, ⟨vs, lv, rfl⟩, no⟩
      simp only [runs1, List.length_cons, List.length_nil, Nat.zero_add, List.replicate_succ, List.replicate_zero, List.drop_succ_cons, List.drop_zero, Int.zero_add, List.getElem?_cons_zero, List.getElem?_cons_succ, List.set_cons_zero, List.set_cons_succ, Option.some.injEq, V.int.injEq, V.ref.injEq, V.bl.injEq, V.ty.injEq, V.str.injEq, List.cons.injEq, List.append_nil, List.cons_append, List.nil_append, exists_eq, exists_eq', exists_eq_left, exists_eq_left', exists_and_left, exists_and_right, and_assoc, true_and, and_true, ↓reduceIte]
      exact q0 fun t s ht hs => no t s ht hs
end

def turnA (rows : List (List Int)) (s t : Nat) : Int := cellA rows t t - cellA rows t s
/-- the turns from a on, word by word -/
def walkA (rows : List (List Int)) : Nat → List Nat → Int
  | _, [] => 0
  | a, w :: ws => turnA rows a w + walkA rows w ws
theorem turnA_self (rows : List (List Int)) (t : Nat) : turnA rows t t = 0 := by unfold turnA; omega
def lastN : Nat → List Nat → Nat
  | a, [] => a
  | _, w :: ws => lastN w ws
theorem walkA_snoc (rows : List (List Int)) : ∀ (ws : List Nat) (a x : Nat), walkA rows a (ws ++ [x]) = walkA rows a ws + turnA rows (lastN a ws) x
  | [], a, x => by simp [walkA, lastN]
  | w :: ws, a, x => by
    show turnA rows a w + walkA rows w (ws ++ [x]) = turnA rows a w + walkA rows w ws + turnA rows (lastN w ws) x
    rw [walkA_snoc rows ws w x]; omega
abbrev nI (ws : List Nat) : List Int := ws.map fun w : Nat => ((w : Nat) : Int)
theorem nI_at {ws : List Nat} {i w : Nat} (h : ws[i]? = some w) : ((nI ws).map V.int)[i]? = some (V.int w) := by
  rw [List.getElem?_map, List.getElem?_map, h]; rfl
theorem nI_get {ws : List Nat} {i : Nat} {x : V} (h : ((nI ws).map V.int)[i]? = some x) : ∃ w, ws[i]? = some w ∧ x = V.int w := by
  rw [List.getElem?_map, List.getElem?_map] at h
  cases e : ws[i]? with
  | none => rw [e] at h; cases h
  | some w => rw [e] at h; cases h; exact ⟨w, rfl, rfl⟩
theorem nI_last : ∀ {ws : List Nat} {a : Nat}, ((nI (a :: ws)).map V.int) = ((nI (a :: ws)).map V.int).dropLast ++ [V.int (lastN a ws)]
  | [], a => rfl
  | w :: ws, a => by
    have ih := @nI_last ws w
    show V.int a :: ((nI (w :: ws)).map V.int) = V.int a :: (((nI (w :: ws)).map V.int).dropLast ++ [V.int (lastN w ws)])
    rw [← ih]
theorem at_last (a : Nat) (ws : List Nat) : atI ((nI (a :: ws)).map V.int) (-1) = some (V.int (lastN a ws)) := by
  rw [nI_last]; exact atI_last _ _
def spAlong (K : PySem.W.Frag) : Sp := fun vs H Q _ => ∃ (g p : Addr) (as : List Addr) (rows : List (List Int)) (n a : Nat) (ws : List Nat), vs = [.ref g, .ref p] ∧ GridL K H g as rows ∧ Square rows n ∧ SqL K H p ((nI (a :: ws)).map V.int) ∧ (∀ x ∈ a :: ws, x < n) ∧ ws.length ≤ 200 ∧ ∀ H', Same H H' → Q (.int (walkA rows a ws)) H'
theorem lastN_mem : ∀ (ws : List Nat) (a : Nat), lastN a ws ∈ a :: ws
  | [], a => List.mem_cons_self
  | w :: ws, a => List.mem_cons_of_mem _ (lastN_mem ws w)

/-! ### walks by turns T: the words behind the first one -/
def wk (T : Nat → Nat → Int) : Nat → List Nat → Int
  | _, [] => 0
  | a, w :: ws => T a w + wk T w ws
def lst : Nat → List Nat → Nat
  | a, [] => a
  | _, w :: ws => lst w ws
theorem lst_snoc : ∀ (ws : List Nat) (a x : Nat), lst a (ws ++ [x]) = x
  | [], _, _ => rfl
  | w :: ws, _, x => lst_snoc ws w x
theorem lst_app : ∀ (ps : List Nat) (a b : Nat) (ss : List Nat), lst a (ps ++ b :: ss) = lst b ss
  | [], _, _, _ => rfl
  | p :: ps, _, b, ss => lst_app ps p b ss
theorem wk_app (T : Nat → Nat → Int) : ∀ (ps : List Nat) (a b : Nat) (ss : List Nat), wk T a (ps ++ b :: ss) = wk T a (ps ++ [b]) + wk T b ss
  | [], a, b, ss => by show T a b + wk T b ss = T a b + 0 + wk T b ss; omega
  | p :: ps, a, b, ss => by
    show T a p + wk T p (ps ++ b :: ss) = T a p + wk T p (ps ++ [b]) + wk T b ss
    rw [wk_app T ps p b ss]; omega
theorem wk_snoc (T : Nat → Nat → Int) : ∀ (ws : List Nat) (a x : Nat), wk T a (ws ++ [x]) = wk T a ws + T (lst a ws) x
  | [], a, x => by show T a x + 0 = 0 + T a x; omega
  | w :: ws, a, x => by
    show T a w + wk T w (ws ++ [x]) = T a w + wk T w ws + T (lst w ws) x
    rw [wk_snoc T ws w x]; omega
theorem lst_mem : ∀ (ws : List Nat) (a : Nat), lst a ws ∈ a :: ws
  | [], a => by simp [lst]
  | w :: ws, a => List.mem_cons_of_mem _ (lst_mem ws w)
theorem dropLast_lst : ∀ (ws : List Nat) (a : Nat), a :: ws = (a :: ws).dropLast ++ [lst a ws]
  | [], a => rfl
  | w :: ws, a => by
    have ih := dropLast_lst ws w
    show a :: (w :: ws) = a :: ((w :: ws).dropLast ++ [lst w ws])
    rw [← ih]
/-- a walk of k turns from s to t, all words below n -/
structure Wk (n k s t : Nat) (ws : List Nat) : Prop where
  len : ws.length = k
  lt : ∀ x ∈ ws, x < n
  to : lst s ws = t
structure Least (T : Nat → Nat → Int) (n k s t : Nat) (ws : List Nat) : Prop where
  w : Wk n k s t ws
  least : ∀ ws', Wk n k s t ws' → wk T s ws ≤ wk T s ws'
theorem Least.one (T : Nat → Nat → Int) {n s t : Nat} (ht : t < n) : Least T n 1 s t [t] := by
  refine ⟨⟨rfl, fun x hx => by rw [List.mem_singleton.mp hx]; exact ht, rfl⟩, fun ws' h => ?_⟩
  match ws', h.len, h.to with
  | [x], _, h2 =>
    have e : x = t := h2
    subst e
    exact Int.le_refl _
theorem Least.more {T : Nat → Nat → Int} {n k s t : Nat} (ht : t < n) (f : Nat → List Nat) (hf : ∀ u, u < n → Least T n k s u (f u)) (hk : 0 < k) {i : Nat} (hi : i < n) (hm : ∀ u, u < n → wk T s (f i) + T i t ≤ wk T s (f u) + T u t) : Least T n (k + 1) s t (f i ++ [t]) := by
  have hi' := (hf i hi).w
  refine ⟨⟨by rw [List.length_append, hi'.len]; rfl, fun x hx => ?_, lst_snoc _ _ _⟩, fun ws' h => ?_⟩
  · rcases List.mem_append.mp hx with z | z
    · exact hi'.lt x z
    · rw [List.mem_singleton.mp z]; exact ht
  · have hne : ws' ≠ [] := by intro e; subst e; have := h.len; simp at this
    obtain ⟨w, r, rfl⟩ : ∃ w r, ws' = w :: r := by
      cases ws' with
      | nil => exact absurd rfl hne
      | cons w r => exact ⟨w, r, rfl⟩
    have e1 := dropLast_lst r w
    have e2 : lst w r = t := h.to
    rw [e2] at e1
    generalize hp : (w :: r).dropLast = p at e1
    rw [e1] at h ⊢
    rw [wk_snoc, wk_snoc]
    have hl : p.length = k := by have := h.len; rw [List.length_append] at this; simpa using this
    have hlt : ∀ x ∈ p, x < n := fun x hx => h.lt x (List.mem_append_left _ hx)
    have hu : lst s p < n := by
      cases p with
      | nil => simp at hl; omega
      | cons y q => exact hlt _ (lst_mem q y)
    have q := (hf (lst s p) hu).least p ⟨hl, hlt, rfl⟩
    have q2 := hm (lst s p) hu
    have q3 := hi'.to
    rw [q3]
    omega
/-- no closed walk of k turns comes to less than 0 -/
def NoNeg (T : Nat → Nat → Int) (n k : Nat) : Prop := ∀ s ws, s < n → Wk n k s s ws → 0 ≤ wk T s ws
theorem NoNeg.zero (T : Nat → Nat → Int) (n : Nat) : NoNeg T n 0 := fun s ws _ h => by
  have := h.len
  cases ws with
  | nil => exact Int.le_refl _
  | cons _ _ => simp at this
theorem NoNeg.one {T : Nat → Nat → Int} (h0 : ∀ t, T t t = 0) (n : Nat) : NoNeg T n 1 := fun s ws _ h => by
  match ws, h.len, h.to with
  | [x], _, h2 =>
    have e : x = s := h2
    subst e
    show 0 ≤ T x x + 0
    rw [h0]; exact Int.le_refl _
theorem twice {l : List Nat} (h : ¬ l.Nodup) : ∃ x A B C, l = A ++ x :: (B ++ x :: C) := by
  induction l with
  | nil => exact absurd List.nodup_nil h
  | cons a r ih =>
    by_cases ha : a ∈ r
    · obtain ⟨B, C, e⟩ := List.append_of_mem ha
      exact ⟨a, [], B, C, by rw [e]; rfl⟩
    · have hr : ¬ r.Nodup := fun q => h (List.nodup_cons.mpr ⟨ha, q⟩)
      obtain ⟨x, A, B, C, e⟩ := ih hr
      exact ⟨x, a :: A, B, C, by rw [e]; rfl⟩
/-- a closed walk in which a word comes twice parts into two shorter ones -/
theorem parts {T : Nat → Nat → Int} {n k s : Nat} {ws : List Nat} (hs : s < n) (hk : 0 < k) (h : Wk n k s s ws) (hd : ¬ (s :: ws.dropLast).Nodup) (hno : ∀ j, j < k → NoNeg T n j) : 0 ≤ wk T s ws := by
  obtain ⟨x, A, B, C, e⟩ := twice hd
  have hne : ws ≠ [] := by intro q; subst q; have := h.len; simp at this; omega
  obtain ⟨w, r, rfl⟩ : ∃ w r, ws = w :: r := by
    cases ws with
    | nil => exact absurd rfl hne
    | cons w r => exact ⟨w, r, rfl⟩
  have e1 := dropLast_lst r w
  have e2 : lst w r = s := h.to
  rw [e2] at e1
  generalize hp : (w :: r).dropLast = p at e e1
  rw [e1] at h ⊢
  have hlen : p.length + 1 = k := by have := h.len; rw [List.length_append] at this; simpa using this
  have hlt := h.lt
  cases A with
  | nil =>
    injection e with ea eb
    subst ea
    rw [eb] at hlen hlt ⊢
    have l1 : B.length + 1 + C.length + 1 = k := by rw [List.length_append, List.length_cons] at hlen; omega
    rw [List.append_assoc, List.cons_append, wk_app]
    have q1 := hno (B.length + 1) (by omega) s (B ++ [s]) hs ⟨by simp, fun y hy => hlt y (by
      simp only [List.mem_append, List.mem_cons, List.mem_singleton] at hy ⊢
      rcases hy with z | z
      · exact .inl (.inl z)
      · exact .inr (by simpa using z)), lst_snoc _ _ _⟩
    have q2 := hno (C.length + 1) (by omega) s (C ++ [s]) hs ⟨by simp, fun y hy => hlt y (by
      simp only [List.mem_append, List.mem_cons, List.mem_singleton] at hy ⊢
      rcases hy with z | z
      · exact .inl (.inr (.inr z))
      · exact .inr (by simpa using z)), lst_snoc _ _ _⟩
    omega
  | cons a A =>
    obtain ⟨ea, eb⟩ : s = a ∧ p = A ++ x :: (B ++ x :: C) := by
      injection e with ea eb
      exact ⟨ea, eb⟩
    subst ea
    rw [eb] at hlen hlt ⊢
    have l1 : A.length + 1 + B.length + 1 + C.length + 1 = k := by
      simp only [List.length_append, List.length_cons] at hlen; omega
    have hx : x < n := hlt x (by simp)
    have e3 : (A ++ x :: (B ++ x :: C)) ++ [s] = A ++ x :: (B ++ x :: (C ++ [s])) := by simp
    rw [e3, wk_app, wk_app T B]
    have q1 := hno (B.length + 1) (by omega) x (B ++ [x]) hx ⟨by simp, fun y hy => hlt y (by
      simp only [List.mem_append, List.mem_cons, List.mem_singleton] at hy ⊢
      rcases hy with z | z
      · exact .inl (.inr (.inr (.inl z)))
      · exact .inl (.inr (.inl (by simpa using z)))), lst_snoc _ _ _⟩
    have q2 := hno (A.length + 1 + (C.length + 1)) (by omega) s (A ++ x :: (C ++ [s])) hs ⟨by simp; omega, fun y hy => hlt y (by
      simp only [List.mem_append, List.mem_cons, List.mem_singleton] at hy ⊢
      rcases hy with z | z | z | z
      · exact .inl (.inl z)
      · exact .inl (.inr (.inl z))
      · exact .inl (.inr (.inr (.inr (.inr z))))
      · exact .inr (by simpa using z)), by rw [lst_app, lst_snoc]⟩
    rw [wk_app] at q2
    omega
theorem few {n : Nat} : ∀ {l : List Nat}, l.Nodup → (∀ x ∈ l, x < n) → l.length ≤ n := by
  induction n with
  | zero =>
    intro l _ h
    cases l with
    | nil => exact Nat.le_refl _
    | cons a r => exact absurd (h a List.mem_cons_self) (Nat.not_lt_zero _)
  | succ n ih =>
    intro l hd h
    have q := ih (l := l.erase n) (hd.erase n) fun x hx => by
      have h1 := (List.Nodup.mem_erase_iff hd).mp hx
      have h2 := h x h1.2
      have h3 := h1.1
      omega
    have z := List.length_erase (a := n) (l := l)
    split at z <;> omega
/-- as many turns as words are enough -/
theorem NoNeg.all {T : Nat → Nat → Int} {n : Nat} (h : ∀ j, j ≤ n → NoNeg T n j) : ∀ k, NoNeg T n k := by
  intro k
  induction k using Nat.strongRecOn with
  | ind k ih =>
    by_cases hk : k ≤ n
    · exact h k hk
    · intro s ws hs hw
      refine parts hs (by omega) hw (fun hd => ?_) ih
      have hl : (s :: ws.dropLast).length = k := by rw [List.length_cons, List.length_dropLast, hw.len]; omega
      have := few hd (fun x hx => by
        rcases List.mem_cons.mp hx with z | z
        · rw [z]; exact hs
        · exact hw.lt x (List.dropLast_subset _ z))
      omega
/-- round a list of words -/
def rnd (T : Nat → Nat → Int) : List Nat → Int
  | [] => 0
  | a :: ws => wk T a (ws ++ [a])
/-- c is a ring with the fewest words -/
structure RingA (T : Nat → Nat → Int) (n : Nat) (c : List Nat) : Prop where
  two : 2 ≤ c.length
  nd : c.Nodup
  lt : ∀ x ∈ c, x < n
  neg : rnd T c < 0
  few : ∀ j, j < c.length → NoNeg T n j
theorem RingA.of {T : Nat → Nat → Int} {n k s : Nat} {ws : List Nat} (h0 : ∀ t, T t t = 0) (hs : s < n) (h : Wk n k s s ws) (hneg : wk T s ws < 0) (hno : ∀ j, j < k → NoNeg T n j) : RingA T n ((s :: ws).dropLast) := by
  have hk : 2 ≤ k := by
    rcases Nat.lt_or_ge k 2 with z | z
    · exfalso
      have : k = 0 ∨ k = 1 := by omega
      rcases this with rfl | rfl
      · have := NoNeg.zero T n s ws hs h; omega
      · have := NoNeg.one h0 n s ws hs h; omega
    · exact z
  obtain ⟨w, r, rfl⟩ : ∃ w r, ws = w :: r := by
    cases ws with
    | nil => have := h.len; simp at this; omega
    | cons w r => exact ⟨w, r, rfl⟩
  have e0 : (s :: w :: r).dropLast = s :: (w :: r).dropLast := rfl
  have e1 := dropLast_lst r w
  have e2 : lst w r = s := h.to
  rw [e2] at e1
  rw [e0]
  have hl : (s :: (w :: r).dropLast).length = k := by rw [List.length_cons, List.length_dropLast, h.len]; omega
  refine ⟨by rw [hl]; exact hk, Classical.byContradiction fun hd => ?_, fun x hx => ?_, ?_, fun j hj => hno j (by rw [hl] at hj; exact hj)⟩
  · have := parts hs (by omega) h hd hno
    omega
  · rcases List.mem_cons.mp hx with z | z
    · rw [z]; exact hs
    · exact h.lt x (List.dropLast_subset _ z)
  · show wk T s ((w :: r).dropLast ++ [s]) < 0
    rw [← e1]; exact hneg
theorem NoNeg.rnd {T : Nat → Nat → Int} {n k : Nat} (h : NoNeg T n k) {c : List Nat} (hl : c.length = k) (hc : ∀ x ∈ c, x < n) : 0 ≤ rnd T c := by
  cases c with
  | nil => exact Int.le_refl _
  | cons a ws =>
    exact h a (ws ++ [a]) (hc a List.mem_cons_self) ⟨by simpa using hl, fun x hx => by
      rcases List.mem_append.mp hx with z | z
      · exact hc x (List.mem_cons_of_mem _ z)
      · rw [List.mem_singleton.mp z]; exact hc a List.mem_cons_self, lst_snoc _ _ _⟩

/-! ### the walks that the program keeps -/
theorem wk_A (rows : List (List Int)) : ∀ (ws : List Nat) (a : Nat), wk (turnA rows) a ws = walkA rows a ws
  | [], _ => rfl
  | w :: ws, a => by
    show turnA rows a w + wk (turnA rows) w ws = turnA rows a w + walkA rows w ws
    rw [wk_A rows ws w]
theorem lst_N : ∀ (ws : List Nat) (a : Nat), lst a ws = lastN a ws
  | [], _ => rfl
  | w :: ws, _ => lst_N ws w
def WalkAt (H : Hp) (v : V) (T : Nat → Nat → Int) (s : Nat) (ws : List Nat) : Prop := ∃ p l, v = .ref p ∧ H p = some (.tup [.int (wk T s ws), .ref l]) ∧ H l = some (.lst ((nI (s :: ws)).map V.int))
def RowAt (H : Hp) (v : V) (T : Nat → Nat → Int) (n k s : Nat) : Prop := ∃ r xs, v = .ref r ∧ H r = some (.lst xs) ∧ xs.length = n ∧ ∀ t, t < n → ∃ x ws, xs[t]? = some x ∧ WalkAt H x T s ws ∧ Least T n k s t ws
def RowsAt (H : Hp) (v : V) (T : Nat → Nat → Int) (n k : Nat) : Prop := ∃ r xs, v = .ref r ∧ H r = some (.lst xs) ∧ xs.length = n ∧ ∀ s, s < n → ∃ x, xs[s]? = some x ∧ RowAt H x T n k s
theorem WalkAt.mono {H H' : Hp} {v : V} {T : Nat → Nat → Int} {s : Nat} {ws : List Nat} (S : Same H H') (h : WalkAt H v T s ws) : WalkAt H' v T s ws := by
  obtain ⟨p, l, e, h1, h2⟩ := h
  exact ⟨p, l, e, S _ _ h1, S _ _ h2⟩
theorem RowAt.mono {H H' : Hp} {v : V} {T : Nat → Nat → Int} {n k s : Nat} (S : Same H H') (h : RowAt H v T n k s) : RowAt H' v T n k s := by
  obtain ⟨r, xs, e, h1, h2, h3⟩ := h
  exact ⟨r, xs, e, S _ _ h1, h2, fun t ht => by
    obtain ⟨x, ws, e1, e2, e3⟩ := h3 t ht
    exact ⟨x, ws, e1, e2.mono S, e3⟩⟩
theorem RowsAt.mono {H H' : Hp} {v : V} {T : Nat → Nat → Int} {n k : Nat} (S : Same H H') (h : RowsAt H v T n k) : RowsAt H' v T n k := by
  obtain ⟨r, xs, e, h1, h2, h3⟩ := h
  exact ⟨r, xs, e, S _ _ h1, h2, fun s hs => by
    obtain ⟨x, e1, e2⟩ := h3 s hs
    exact ⟨x, e1, e2.mono S⟩⟩
/-- a row is being made -/
def RowPre (H0 : Hp) (T : Nat → Nat → Int) (n k s : Nat) (i : Nat) (ys : List V) (H2 : Hp) : Prop := Same H0 H2 ∧ ys.length = i ∧ ∀ t, t < i → ∃ x ws, ys[t]? = some x ∧ WalkAt H2 x T s ws ∧ Least T n k s t ws
theorem RowPre.snoc {H0 H2 H3 : Hp} {T : Nat → Nat → Int} {n k s i : Nat} {ys : List V} {x : V} {ws : List Nat} (h : RowPre H0 T n k s i ys H2) (S : Same H2 H3) (hx : WalkAt H3 x T s ws) (hl : Least T n k s i ws) : RowPre H0 T n k s (i + 1) (ys ++ [x]) H3 := by
  obtain ⟨h1, h2, h3⟩ := h
  refine ⟨h1.trans S, by rw [List.length_append, h2]; rfl, fun t ht => ?_⟩
  by_cases e : t < i
  · obtain ⟨y, us, e1, e2, e3⟩ := h3 t e
    exact ⟨y, us, by rw [List.getElem?_append_left (by omega)]; exact e1, e2.mono S, e3⟩
  · have : t = i := by omega
    subst this
    exact ⟨x, ws, by rw [List.getElem?_append_right (by omega), h2]; simp, hx, hl⟩
theorem RowPre.done {H0 H2 : Hp} {T : Nat → Nat → Int} {n k s : Nat} {ys : List V} {l : Addr} (h : RowPre H0 T n k s n ys H2) (hl : H2 l = none) : Same H0 (upd H2 l (.lst ys)) ∧ RowAt (upd H2 l (.lst ys)) (.ref l) T n k s := by
  obtain ⟨h1, h2, h3⟩ := h
  have S : Same H2 (upd H2 l (.lst ys)) := Same.upd (Same.refl _) hl
  refine ⟨h1.trans S, l, ys, rfl, upd_same, h2, fun t ht => ?_⟩
  obtain ⟨y, us, e1, e2, e3⟩ := h3 t ht
  exact ⟨y, us, e1, e2.mono S, e3⟩
def RowsPre (H0 : Hp) (T : Nat → Nat → Int) (n k : Nat) (i : Nat) (ys : List V) (H2 : Hp) : Prop := Same H0 H2 ∧ ys.length = i ∧ ∀ t, t < i → ∃ x, ys[t]? = some x ∧ RowAt H2 x T n k t
theorem RowsPre.snoc {H0 H2 H3 : Hp} {T : Nat → Nat → Int} {n k i : Nat} {ys : List V} {x : V} (h : RowsPre H0 T n k i ys H2) (S : Same H2 H3) (hx : RowAt H3 x T n k i) : RowsPre H0 T n k (i + 1) (ys ++ [x]) H3 := by
  obtain ⟨h1, h2, h3⟩ := h
  refine ⟨h1.trans S, by rw [List.length_append, h2]; rfl, fun t ht => ?_⟩
  by_cases e : t < i
  · obtain ⟨y, e1, e2⟩ := h3 t e
    exact ⟨y, by rw [List.getElem?_append_left (by omega)]; exact e1, e2.mono S⟩
  · have : t = i := by omega
    subst this
    exact ⟨x, by rw [List.getElem?_append_right (by omega), h2]; simp, hx⟩
theorem RowsPre.done {H0 H2 : Hp} {T : Nat → Nat → Int} {n k : Nat} {ys : List V} {l : Addr} (h : RowsPre H0 T n k n ys H2) (hl : H2 l = none) : Same H0 (upd H2 l (.lst ys)) ∧ RowsAt (upd H2 l (.lst ys)) (.ref l) T n k := by
  obtain ⟨h1, h2, h3⟩ := h
  have S : Same H2 (upd H2 l (.lst ys)) := Same.upd (Same.refl _) hl
  refine ⟨h1.trans S, l, ys, rfl, upd_same, h2, fun t ht => ?_⟩
  obtain ⟨y, e1, e2⟩ := h3 t ht
  exact ⟨y, e1, e2.mono S⟩
/-- a grid that is read -/
structure Gd (K : PySem.W.Frag) (H : Hp) (g : Addr) (rows : List (List Int)) (n : Nat) : Prop where
  ex : ∃ as, GridL K H g as rows ∧ as.length = n
  sq : Square rows n
  n8 : n ≤ 8
theorem Gd.mono {K : PySem.W.Frag} {H H' : Hp} {g : Addr} {rows : List (List Int)} {n : Nat} (S : Same H H') (G : Gd K H g rows n) : Gd K H' g rows n := by
  obtain ⟨as, h1, h2⟩ := G.ex
  exact ⟨⟨as, GridL.mono S h1, h2⟩, G.sq, G.n8⟩
/-- the promise of turn, by the grid -/
theorem spTurn_of {K : PySem.W.Frag} {H : Hp} {g : Addr} {rows : List (List Int)} {n s t : Nat} {Q : VK} {E : XK} (G : Gd K H g rows n) (hs : s < n) (ht : t < n) (q : Q (.int (turnA rows s t)) H) : spTurn K [.ref g, .int s, .int t] H Q E := by
  obtain ⟨as, h1, h2⟩ := G.ex
  obtain ⟨ns, e1, l1⟩ := G.sq t ht
  exact ⟨g, as, rows, s, t, ns, _, _, rfl, h1, e1, cell_at e1 (by omega), cell_at e1 (by omega), q⟩
def spTotal : Sp := fun vs H Q _ => ∃ (p : Addr) (i : Int) (l : V), vs = [.ref p] ∧ H p = some (.tup [.int i, l]) ∧ Q (.int i) H
def spWordsOf : Sp := fun vs H Q _ => ∃ (p : Addr) (i : Int) (l : V), vs = [.ref p] ∧ H p = some (.tup [.int i, l]) ∧ Q l H
def spOne (K : PySem.W.Frag) : Sp := fun vs H Q _ => ∃ (g : Addr) (rows : List (List Int)) (n s : Nat), vs = [.ref g, .int s] ∧ Gd K H g rows n ∧ s < n ∧ ∀ H' v, Same H H' → RowAt H' v (turnA rows) n 1 s → Q v H'
def spLeast (K : PySem.W.Frag) : Sp := fun vs H Q _ => ∃ (g : Addr) (rows : List (List Int)) (v : V) (n k s t : Nat), vs = [.ref g, v, .int t] ∧ Gd K H g rows n ∧ RowAt H v (turnA rows) n k s ∧ t < n ∧ s < n ∧ 0 < k ∧ k ≤ 100 ∧
  ∀ H' x ws, Same H H' → WalkAt H' x (turnA rows) s ws → Least (turnA rows) n (k + 1) s t ws → Q x H'
def spLong (K : PySem.W.Frag) : Sp := fun vs H Q _ => ∃ (g : Addr) (rows : List (List Int)) (v : V) (n k s : Nat), vs = [.ref g, v] ∧ Gd K H g rows n ∧ RowAt H v (turnA rows) n k s ∧ s < n ∧ 0 < k ∧ k ≤ 100 ∧
  ∀ H' v', Same H H' → RowAt H' v' (turnA rows) n (k + 1) s → Q v' H'
def spClosed : Sp := fun vs H Q _ => ∃ (T : Nat → Nat → Int) (v : V) (n k : Nat), vs = [v] ∧ RowsAt H v T n k ∧ 0 < k ∧ n ≤ 8 ∧ (∀ H', Same H H' → NoNeg T n k → Q .non H') ∧
  ∀ H' s ws l, Same H H' → H' l = some (.lst ((nI ((s :: ws).dropLast)).map V.int)) → s < n → Wk n k s s ws → wk T s ws < 0 → Q (.ref l) H'
def spRing (K : PySem.W.Frag) : Sp := fun vs H Q _ => ∃ (g : Addr) (rows : List (List Int)) (n : Nat), vs = [.ref g] ∧ Gd K H g rows n ∧ 0 < n ∧ (∀ H', Same H H' → (∀ j, j ≤ n → NoNeg (turnA rows) n j) → Q .non H') ∧
  ∀ H' l c, Same H H' → H' l = some (.lst ((nI c).map V.int)) → RingA (turnA rows) n c → Q (.ref l) H'
section
variable {P : Program} {w : World} {K : PySem.W.Frag} {mg : Str → Option Value} {base : Heap}
set_option maxHeartbeats 4000000
theorem f_total_of (D : DefIn K mg "total_of" s_total_of ["walk"]) : FnAt P w K mg base "total_of" 1 ["walk"] spTotal := by
  refine FnAt.of D sc_total_of (fun vs H Q E h => ?_) (fun f cdv A outer s H vs Q E hr h => ?_)
  · obtain ⟨p, i, l, rfl, _⟩ := h
    rfl
  · obtain ⟨p, i, l, rfl, hp, q⟩ := h
    refine ⟨_, (@pss_one _ _ _ (@ps_ret _ _ _ _ (@pe_ix _ _ _ _ _ _ _ ix_tup (pv 0) (@pe_int _ _ _ _) (fun _ _ => rfl)))), ?_⟩
    rw [show start ["walk"] [V.ref p] = [some (V.ref p)] from rfl]
    simp only [runs1, List.length_cons, List.length_nil, Nat.zero_add, List.replicate_succ, List.replicate_zero, List.drop_succ_cons, List.drop_zero, Int.zero_add, List.getElem?_cons_zero, List.getElem?_cons_succ, List.set_cons_zero, List.set_cons_succ, Option.some.injEq, V.int.injEq, V.ref.injEq, V.bl.injEq, V.ty.injEq, V.str.injEq, List.cons.injEq, List.append_nil, List.cons_append, List.nil_append, exists_eq, exists_eq', exists_eq_left, exists_eq_left', exists_and_left, exists_and_right, and_assoc, true_and, and_true, ↓reduceIte]
    exact ⟨_, .of hp, _, atI_nat (j := 0) rfl, q⟩
theorem f_words_of (D : DefIn K mg "words_of" s_words_of ["walk"]) : FnAt P w K mg base "words_of" 1 ["walk"] spWordsOf := by
  refine FnAt.of D sc_words_of (fun vs H Q E h => ?_) (fun f cdv A outer s H vs Q E hr h => ?_)
  · obtain ⟨p, i, l, rfl, _⟩ := h
    rfl
  · obtain ⟨p, i, l, rfl, hp, q⟩ := h
    refine ⟨_, (@pss_one _ _ _ (@ps_ret _ _ _ _ (@pe_ix _ _ _ _ _ _ _ ix_tup (pv 0) (@pe_int _ _ _ _) (fun _ _ => rfl)))), ?_⟩
    rw [show start ["walk"] [V.ref p] = [some (V.ref p)] from rfl]
    simp only [runs1, List.length_cons, List.length_nil, Nat.zero_add, List.replicate_succ, List.replicate_zero, List.drop_succ_cons, List.drop_zero, Int.zero_add, List.getElem?_cons_zero, List.getElem?_cons_succ, List.set_cons_zero, List.set_cons_succ, Option.some.injEq, V.int.injEq, V.ref.injEq, V.bl.injEq, V.ty.injEq, V.str.injEq, List.cons.injEq, List.append_nil, List.cons_append, List.nil_append, exists_eq, exists_eq', exists_eq_left, exists_eq_left', exists_and_left, exists_and_right, and_assoc, true_and, and_true, ↓reduceIte]
    exact ⟨_, .of hp, _, atI_nat (j := 1) rfl, q⟩
theorem f_walks_of_one_turn (B : Bt mg) (f_turn : FnAt P w K mg base "turn" 1 ["grid", "s", "t"] (spTurn K)) (D : DefIn K mg "walks_of_one_turn" s_walks_of_one_turn ["grid", "s"]) : FnAt P w K mg base "walks_of_one_turn" 2 ["grid", "s"] (spOne K) := by
  refine FnAt.of D sc_walks_of_one_turn (fun vs H Q E h => ?_) (fun f cdv A outer s H vs Q E hr h => ?_)
  · obtain ⟨g, rows, n, s, rfl, _⟩ := h
    rfl
  · obtain ⟨g, rows, n, s, rfl, G, hs, q⟩ := h
    have n8 := G.n8
    refine ⟨_, (@pss_one _ _ _ (@ps_ret _ _ _ _ (pe_comp ["t"] ["grid", "s"] rfl (pi_range1 rfl B.range (pa_cons (pe_callB call_len_seq rfl B.len bt_len (pa_cons (pv 0) (@pa_nil _))) (@pa_nil _))) (fun _ => (pg_name (i := 0) (show (["t", "grid", "s"] : List Str).Nodup by decide +kernel) rfl (Or.inl rfl))) (fun _ => (@pts_nil _)) (fun _ => (@pe_tup _ _ _ _ _ (@pa_cons _ _ _ _ _ (pe_callA f_turn (hr.mono (by decide)) rfl (@pa_cons _ _ _ _ _ (pv 1) (@pa_cons _ _ _ _ _ (pv 2) (@pa_cons _ _ _ _ _ (pv 0) (@pa_nil _) (star_of nofun)) (star_of nofun)) (star_of nofun))) (@pa_cons _ _ _ _ _ (@pe_lst _ _ _ _ (@pa_cons _ _ _ _ _ (pv 2) (@pa_cons _ _ _ _ _ (pv 0) (@pa_nil _) (star_of nofun)) (star_of nofun))) (@pa_nil _) (star_of nofun)) (star_of nofun)))) rfl (by decide +kernel) rfl rfl))), ?_⟩
    rw [show start ["grid", "s"] [V.ref g, V.int s] = [some (V.ref g), some (V.int s)] from rfl]
    simp only [runs1, List.length_cons, List.length_nil, Nat.zero_add, List.replicate_succ, List.replicate_zero, List.drop_succ_cons, List.drop_zero, Int.zero_add, List.getElem?_cons_zero, List.getElem?_cons_succ, List.set_cons_zero, List.set_cons_succ, Option.some.injEq, V.int.injEq, V.ref.injEq, V.bl.injEq, V.ty.injEq, V.str.injEq, List.cons.injEq, List.append_nil, List.cons_append, List.nil_append, exists_eq, exists_eq', exists_eq_left, exists_eq_left', exists_and_left, exists_and_right, and_assoc, true_and, and_true, ↓reduceIte]
    obtain ⟨as, h1, h2⟩ := G.ex
    refine ⟨_, .inl h1.1, ?_⟩
    rw [List.length_map, h2]
    refine ⟨by omega, by omega, fun d => ?_⟩
    rw [Int.toNat_natCast]
    refine comp_range (RowPre H (turnA rows) n 1 s) ⟨Same.refl _, rfl, fun t ht => by omega⟩ ?_ ?_ ?_
    · rintro i ys H' hi h
      rw [h.2.1]
      exact Nat.le_trans hi (Nat.le_trans n8 (by decide))
    · rintro i ys H' hi h
      simp only [runs1, List.length_cons, List.length_nil, Nat.zero_add, List.replicate_succ, List.replicate_zero, List.drop_succ_cons, List.drop_zero, Int.zero_add, List.getElem?_cons_zero, List.getElem?_cons_succ, List.set_cons_zero, List.set_cons_succ, Option.some.injEq, V.int.injEq, V.ref.injEq, V.bl.injEq, V.ty.injEq, V.str.injEq, List.cons.injEq, List.append_nil, List.cons_append, List.nil_append, exists_eq, exists_eq', exists_eq_left, exists_eq_left', exists_and_left, exists_and_right, and_assoc, true_and, and_true, ↓reduceIte]
      refine spTurn_of (G.mono h.1) hs hi ?_
      refine ⟨by show 2 ≤ sizeLine; decide, fun l hl => ⟨by show 2 ≤ sizeLine; decide, fun p hp => ?_⟩⟩
      have S1 : Same H' (upd H' l (.lst [V.int s, V.int i])) := Same.upd (Same.refl _) hl
      have S2 : Same (upd H' l (.lst [V.int s, V.int i])) (upd (upd H' l (.lst [V.int s, V.int i])) p (.tup [V.int (turnA rows s i), V.ref l])) := Same.upd (Same.refl _) hp
      refine h.snoc (ws := [i]) (S1.trans S2) ⟨p, l, rfl, ?_, S2 _ _ upd_same⟩ (Least.one _ hi)
      rw [upd_same]
      show _ = some (HO.tup [V.int (turnA rows s i + 0), V.ref l])
      rw [Int.add_zero]
    · rintro ys H' h l hl
      obtain ⟨S, R⟩ := h.done hl
      exact q _ _ S R
end

theorem nI_snoc (ws : List Nat) (t : Nat) : (nI ws).map V.int ++ [V.int t] = (nI (ws ++ [t])).map V.int := by simp [nI]
theorem cut_last (xs : List V) : cutV xs none (some (-1)) = xs.dropLast := by
  unfold cutV
  rw [HT.sIx_none, List.drop_zero, Nat.sub_zero, List.dropLast_eq_take]
  congr 1
  unfold HT.sIx
  simp
  omega
theorem nI_dropLast (ws : List Nat) : ((nI ws).map V.int).dropLast = (nI ws.dropLast).map V.int := by
  rw [List.dropLast_eq_take, List.dropLast_eq_take, nI, nI, ← List.map_take, ← List.map_take]
  simp
theorem row_choose {H : Hp} {T : Nat → Nat → Int} {n k s : Nat} {xs : List V} (h : ∀ t, t < n → ∃ x ws, xs[t]? = some x ∧ WalkAt H x T s ws ∧ Least T n k s t ws) :
    ∃ f : Nat → List Nat, ∀ t, t < n → Least T n k s t (f t) ∧ ∀ x, xs[t]? = some x → WalkAt H x T s (f t) := by
  refine ⟨fun t => if ht : t < n then Classical.choose (Classical.choose_spec (h t ht)) else [], fun t ht => ?_⟩
  have z := Classical.choose_spec (Classical.choose_spec (h t ht))
  simp only [ht, dif_pos]
  refine ⟨z.2.2, fun x hx => ?_⟩
  rw [z.1] at hx
  cases hx
  exact z.2.1
def spAfter (K : PySem.W.Frag) : Sp := fun vs H Q _ => ∃ (g l : Addr) (rows : List (List Int)) (ts : List Int) (n t : Nat), vs = [.ref g, .ref l, .int t] ∧ Gd K H g rows n ∧ 0 < n ∧ SqL K H l (ts.map V.int) ∧ ts.length = n ∧ t < n ∧ ∀ H' m, Same H H' → Q (.int m) H'
def PvAft (H : Hp) (i : Nat) (ys : List V) (H' : Hp) : Prop := Same H H' ∧ ∃ ns : List Int, ns.length = i ∧ ys = ns.map V.int
def HonA (rows : List (List Int)) (ps : List Int) (n : Nat) : Prop := ∀ t s : Nat, t < n → s < n → cellA rows t s - cellA rows t t ≤ ps.getD s 0 - ps.getD t 0
def spHas (K : PySem.W.Frag) : Sp := fun vs H Q _ => ∃ (g : Addr) (rows : List (List Int)) (n : Nat), vs = [.ref g] ∧ Gd K H g rows n ∧ 0 < n ∧ ∀ H' (b : Bool), Same H H' → (b = true → ∃ ps : List Int, HonA rows ps n) → Q (.bl b) H'
def PvTotH (H : Hp) (g : Addr) (n : Nat) (i : Nat) (σ : L2.St) (H' : Hp) : Prop := Same H H' ∧ ∃ (l : Addr) (ts : List Int) (v : Option V), H' l = some (.lst (ts.map V.int)) ∧ ts.length = n ∧ σ = [some (.ref g), some (.ref l), v]
theorem honA_wk {rows : List (List Int)} {ps : List Int} {n : Nat} (h : HonA rows ps n) : ∀ (ws : List Nat) (s : Nat), s < n → (∀ x ∈ ws, x < n) → ps.getD (lst s ws) 0 - ps.getD s 0 ≤ wk (turnA rows) s ws
  | [], s, _, _ => by show ps.getD s 0 - ps.getD s 0 ≤ 0; omega
  | w :: ws, s, hs, hw => by
    have hw' := hw w List.mem_cons_self
    have h1 := honA_wk h ws w hw' fun x hx => hw x (List.mem_cons_of_mem _ hx)
    have h2 := h w s hw' hs
    show ps.getD (lst w ws) 0 - ps.getD s 0 ≤ turnA rows s w + wk (turnA rows) w ws
    unfold turnA
    unfold turnA at h1
    omega
theorem HonA.no {rows : List (List Int)} {ps : List Int} {n : Nat} (h : HonA rows ps n) (j : Nat) : NoNeg (turnA rows) n j := fun s ws hs W => by
  have := honA_wk h ws s hs W.lt
  rw [W.to] at this
  omega
section
variable {P : Program} {w : World} {K : PySem.W.Frag} {mg : Str → Option Value} {base : Heap}
set_option maxHeartbeats 4000000
theorem f_least_to (B : Bt mg) (f_turn : FnAt P w K mg base "turn" 1 ["grid", "s", "t"] (spTurn K)) (f_total_of : FnAt P w K mg base "total_of" 1 ["walk"] spTotal) (D : DefIn K mg "least_to" s_least_to ["grid", "walks", "t"]) : FnAt P w K mg base "least_to" 3 ["grid", "walks", "t"] (spLeast K) := by
  refine FnAt.of D sc_least_to (fun vs H Q E h => ?_) (fun f cdv A outer s H vs Q E hr h => ?_)
  · obtain ⟨g, rows, v, n, k, s, t, rfl, _⟩ := h
    rfl
  · obtain ⟨g, rows, v, n, k, s, t, rfl, G, R, ht, hs, hk, hk2, q⟩ := h
    have n8 := G.n8
    obtain ⟨r, xs, rfl, hr1, hlen, hall⟩ := R
    obtain ⟨fw, hfw⟩ := row_choose hall
    refine ⟨_, (@pss_cons _ _ _ _ _ (ps_setC (i := 3) ["total", "words"] ["grid", "walks", "t", "longer"] sc_least_to.nd rfl rfl rfl (@pi_list _ _ _ _ (pv 1)) (fun _ => (pg_tup rfl (pgs_cons (pg_name (i := 0) (show (["total", "words", "grid", "walks", "t", "longer"] : List Str).Nodup by decide +kernel) rfl (Or.inl rfl)) (pgs_cons (pg_name (i := 1) (show (["total", "words", "grid", "walks", "t", "longer"] : List Str).Nodup by decide +kernel) rfl (Or.inl rfl)) (@pgs_nil _))))) (fun _ => (@pts_nil _)) (fun _ => (@pe_tup _ _ _ _ _ (pa_cons (@pe_op _ _ _ _ _ _ _ _ op_add (pv 0) (pe_callA f_turn (hr.mono (by decide)) rfl (pa_cons (pv 2) (pa_cons (@pe_ix _ _ _ _ _ _ _ ix_list (pv 1) (@pe_un _ _ _ _ _ _ un_neg (@pe_int _ _ _ _)) (fun _ _ => rfl)) (pa_cons (pv 4) (@pa_nil _)))))) (pa_cons (@pe_op _ _ _ _ _ _ _ _ op_cat (pv 1) (@pe_lst _ _ _ _ (pa_cons (pv 4) (@pa_nil _)))) (@pa_nil _))))) rfl (by decide +kernel) rfl rfl rfl) (@pss_one _ _ _ (@ps_ret _ _ _ _ (pe_minK f_total_of (hr.mono (by decide)) rfl rfl B.min rfl (pa_cons (pv 3) (@pa_nil _)))))), ?_⟩
    rw [show start ["grid", "walks", "t", "longer"] [V.ref g, V.ref r, V.int t] = [some (V.ref g), some (V.ref r), some (V.int t), none] from rfl]
    simp only [runs1, List.length_cons, List.length_nil, Nat.zero_add, List.replicate_succ, List.replicate_zero, List.drop_succ_cons, List.drop_zero, Int.zero_add, List.getElem?_cons_zero, List.getElem?_cons_succ, List.set_cons_zero, List.set_cons_succ, Option.some.injEq, V.int.injEq, V.ref.injEq, V.bl.injEq, V.ty.injEq, V.str.injEq, List.cons.injEq, List.append_nil, List.cons_append, List.nil_append, exists_eq, exists_eq', exists_eq_left, exists_eq_left', exists_and_left, exists_and_right, and_assoc, true_and, and_true, ↓reduceIte]
    refine ⟨⟨_, .of hr1⟩, fun d => ?_⟩
    refine comp_list (xs := xs) (fun i ys H2 => Same H H2 ∧ ys.length = i ∧ ∀ u, u < i → ∃ x, ys[u]? = some x ∧ WalkAt H2 x (turnA rows) s (fw u ++ [t])) ⟨Same.refl _, rfl, fun u hu => by omega⟩ ?_ ?_ ?_
    · rintro i ys H2 hi ⟨S, hl, _⟩
      exact ⟨by rw [hl]; rw [hlen] at hi; exact Nat.le_trans hi (Nat.le_trans n8 (by decide)), S.seq (.of hr1)⟩
    · rintro i x ys H2 hx ⟨S, hl, hy⟩
      have hi : i < n := by rw [← hlen]; exact (List.getElem?_eq_some_iff.mp hx).1
      obtain ⟨hL, hW⟩ := hfw i hi
      obtain ⟨p, l, rfl, hp, hl1⟩ := hW x hx
      have hp2 := S _ _ hp
      have hl2 := S _ _ hl1
      have hto := hL.w.to
      rw [lst_N] at hto
      simp only [runs1, List.length_cons, List.length_nil, Nat.zero_add, List.replicate_succ, List.replicate_zero, List.drop_succ_cons, List.drop_zero, Int.zero_add, List.getElem?_cons_zero, List.getElem?_cons_succ, List.set_cons_zero, List.set_cons_succ, Option.some.injEq, V.int.injEq, V.ref.injEq, V.bl.injEq, V.ty.injEq, V.str.injEq, List.cons.injEq, List.append_nil, List.cons_append, List.nil_append, exists_eq, exists_eq', exists_eq_left, exists_eq_left', exists_and_left, exists_and_right, and_assoc, true_and, and_true, ↓reduceIte]
      refine ⟨_, .of hp2, rfl, ?_⟩
      simp only [runs1, List.length_cons, List.length_nil, Nat.zero_add, List.replicate_succ, List.replicate_zero, List.drop_succ_cons, List.drop_zero, Int.zero_add, List.getElem?_cons_zero, List.getElem?_cons_succ, List.set_cons_zero, List.set_cons_succ, Option.some.injEq, V.int.injEq, V.ref.injEq, V.bl.injEq, V.ty.injEq, V.str.injEq, List.cons.injEq, List.append_nil, List.cons_append, List.nil_append, exists_eq, exists_eq', exists_eq_left, exists_eq_left', exists_and_left, exists_and_right, and_assoc, true_and, and_true, ↓reduceIte]
      refine ⟨_, .of hl2, _, at_last s (fw i), ?_⟩
      rw [hto]
      refine spTurn_of (G.mono S) hi ht ?_
      simp only [runs1, List.length_cons, List.length_nil, Nat.zero_add, List.replicate_succ, List.replicate_zero, List.drop_succ_cons, List.drop_zero, Int.zero_add, List.getElem?_cons_zero, List.getElem?_cons_succ, List.set_cons_zero, List.set_cons_succ, Option.some.injEq, V.int.injEq, V.ref.injEq, V.bl.injEq, V.ty.injEq, V.str.injEq, List.cons.injEq, List.append_nil, List.cons_append, List.nil_append, exists_eq, exists_eq', exists_eq_left, exists_eq_left', exists_and_left, exists_and_right, and_assoc, true_and, and_true, ↓reduceIte]
      refine ⟨by show 1 ≤ sizeLine; decide, fun b hb => ?_⟩
      have S1 : Same H2 (upd H2 b (.lst [V.int t])) := Same.upd (Same.refl _) hb
      refine ⟨_, S1 _ _ hl2, _, upd_same, ?_, fun c hc => ⟨by show 2 ≤ sizeLine; decide, fun e he => ?_⟩⟩
      · have := hL.w.len
        simp only [nI, List.length_map, List.length_cons, List.length_nil, this]
        exact Nat.le_trans (show k + 1 + 1 ≤ 102 by omega) (by decide)
      · have S2 : Same (upd H2 b (.lst [V.int t])) (upd (upd H2 b (.lst [V.int t])) c (.lst ((nI (s :: fw i)).map V.int ++ [V.int t]))) := Same.upd (Same.refl _) hc
        have S3 := Same.upd (o := .tup [V.int (wk (turnA rows) s (fw i) + turnA rows i t), V.ref c]) (Same.refl (upd (upd H2 b (.lst [V.int t])) c (.lst ((nI (s :: fw i)).map V.int ++ [V.int t])))) he
        refine ⟨S.trans (S1.trans (S2.trans S3)), by simp [hl], fun u hu => ?_⟩
        by_cases eu : u < i
        · obtain ⟨x, e1, e2⟩ := hy u eu
          exact ⟨x, by rw [List.getElem?_append_left (by omega)]; exact e1, e2.mono (S1.trans (S2.trans S3))⟩
        · have : u = i := by omega
          subst this
          refine ⟨.ref e, by rw [List.getElem?_append_right (by omega), hl]; simp, e, c, rfl, ?_, ?_⟩
          · rw [upd_same, wk_snoc, hL.w.to]
          · exact S3 _ _ (by rw [upd_same, nI_snoc]; rfl)
    · rintro ys H2 ⟨S, hl, hy⟩ lo hlo
      rw [hlen] at hl hy
      have S1 : Same H2 (upd H2 lo (.lst ys)) := Same.upd (Same.refl _) hlo
      refine ⟨ys, .of upd_same, by omega, fun u => wk (turnA rows) s (fw u ++ [t]), fun i x hx => ?_, fun i x hx hm => ?_⟩
      · have hi : i < n := by rw [← hl]; exact (List.getElem?_eq_some_iff.mp hx).1
        obtain ⟨x', e1, p, l, e2, hp, hl1⟩ := hy i hi
        rw [hx] at e1
        cases e1
        subst e2
        exact ⟨p, _, _, rfl, S1 _ _ hp, rfl, rfl⟩
      · have hi : i < n := by rw [← hl]; exact (List.getElem?_eq_some_iff.mp hx).1
        obtain ⟨x', e1, hw⟩ := hy i hi
        rw [hx] at e1
        cases e1
        refine q _ _ _ (S.trans S1) (hw.mono S1) (Least.more ht fw (fun u hu => (hfw u hu).1) hk hi fun u hu => ?_)
        have z : wk (turnA rows) s (fw i ++ [t]) ≤ wk (turnA rows) s (fw u ++ [t]) := (hm u (by omega)).1
        rw [wk_snoc, wk_snoc, (hfw i hi).1.w.to, (hfw u hu).1.w.to] at z
        exact z
theorem f_lengthened (B : Bt mg) (f_least_to : FnAt P w K mg base "least_to" 3 ["grid", "walks", "t"] (spLeast K)) (D : DefIn K mg "lengthened" s_lengthened ["grid", "walks"]) : FnAt P w K mg base "lengthened" 4 ["grid", "walks"] (spLong K) := by
  refine FnAt.of D sc_lengthened (fun vs H Q E h => ?_) (fun f cdv A outer s H vs Q E hr h => ?_)
  · obtain ⟨g, rows, v, n, k, s, rfl, _⟩ := h
    rfl
  · obtain ⟨g, rows, v, n, k, s, rfl, G, R, hs, hk, hk2, q⟩ := h
    have n8 := G.n8
    refine ⟨_, (@pss_one _ _ _ (@ps_ret _ _ _ _ (pe_comp ["t"] ["grid", "walks"] rfl (pi_range1 rfl B.range (pa_cons (pe_callB call_len_seq rfl B.len bt_len (pa_cons (pv 0) (@pa_nil _))) (@pa_nil _))) (fun _ => (pg_name (i := 0) (show (["t", "grid", "walks"] : List Str).Nodup by decide +kernel) rfl (Or.inl rfl))) (fun _ => (@pts_nil _)) (fun _ => (pe_callA f_least_to (hr.mono (by decide)) rfl (pa_cons (pv 1) (pa_cons (pv 2) (pa_cons (pv 0) (@pa_nil _)))))) rfl (by decide +kernel) rfl rfl))), ?_⟩
    rw [show start ["grid", "walks"] [V.ref g, v] = [some (V.ref g), some v] from rfl]
    simp only [runs1, List.length_cons, List.length_nil, Nat.zero_add, List.replicate_succ, List.replicate_zero, List.drop_succ_cons, List.drop_zero, Int.zero_add, List.getElem?_cons_zero, List.getElem?_cons_succ, List.set_cons_zero, List.set_cons_succ, Option.some.injEq, V.int.injEq, V.ref.injEq, V.bl.injEq, V.ty.injEq, V.str.injEq, List.cons.injEq, List.append_nil, List.cons_append, List.nil_append, exists_eq, exists_eq', exists_eq_left, exists_eq_left', exists_and_left, exists_and_right, and_assoc, true_and, and_true, ↓reduceIte]
    obtain ⟨as, h1, h2⟩ := G.ex
    refine ⟨_, .inl h1.1, ?_⟩
    rw [List.length_map, h2]
    refine ⟨by omega, by omega, fun d => ?_⟩
    rw [Int.toNat_natCast]
    refine comp_range (RowPre H (turnA rows) n (k + 1) s) ⟨Same.refl _, rfl, fun t ht => by omega⟩ ?_ ?_ ?_
    · rintro i ys H' hi h
      rw [h.2.1]
      exact Nat.le_trans hi (Nat.le_trans n8 (by decide))
    · rintro i ys H' hi h
      simp only [runs1, List.length_cons, List.length_nil, Nat.zero_add, List.replicate_succ, List.replicate_zero, List.drop_succ_cons, List.drop_zero, Int.zero_add, List.getElem?_cons_zero, List.getElem?_cons_succ, List.set_cons_zero, List.set_cons_succ, Option.some.injEq, V.int.injEq, V.ref.injEq, V.bl.injEq, V.ty.injEq, V.str.injEq, List.cons.injEq, List.append_nil, List.cons_append, List.nil_append, exists_eq, exists_eq', exists_eq_left, exists_eq_left', exists_and_left, exists_and_right, and_assoc, true_and, and_true, ↓reduceIte]
      exact ⟨g, rows, v, n, k, s, i, rfl, G.mono h.1, R.mono h.1, hi, hs, hk, hk2, fun H2 x ws S1 hw hl => h.snoc S1 hw hl⟩
    · rintro ys H' h l hl
      obtain ⟨S, R⟩ := h.done hl
      exact q _ _ S R
theorem f_closed_below_zero (B : Bt mg) (f_total_of : FnAt P w K mg base "total_of" 1 ["walk"] spTotal) (f_words_of : FnAt P w K mg base "words_of" 1 ["walk"] spWordsOf) (D : DefIn K mg "closed_below_zero" s_closed_below_zero ["rows"]) : FnAt P w K mg base "closed_below_zero" 2 ["rows"] spClosed := by
  refine FnAt.of D sc_closed_below_zero (fun vs H Q E h => ?_) (fun f cdv A outer s H vs Q E hr h => ?_)
  · obtain ⟨T, v, n, k, rfl, _⟩ := h
    rfl
  · obtain ⟨T, v, n, k, rfl, ⟨r, xs, rfl, hr1, hlen, hall⟩, hk, n8, q0, q1⟩ := h
    refine ⟨_, (@pss_cons _ _ _ _ _ (ps_for PassesOwn.never rfl (pi_enumerate rfl B.enumerate (pa_cons (pv 0) (@pa_nil _))) (pg_tup rfl (pgs_cons (pg_name (i := 1) sc_closed_below_zero.nd rfl (Or.inl rfl)) (pgs_cons (pg_name (i := 2) sc_closed_below_zero.nd rfl (Or.inl rfl)) (@pgs_nil _)))) (@pss_one _ _ _ (@ps_if _ _ _ _ _ _ _ _ (@pt_cmpR _ _ _ _ _ _ _ _ op_lt (pe_callA f_total_of (hr.mono (by decide)) rfl (pa_cons (@pe_ix _ _ _ _ _ _ _ ix_list (pv 2) (pv 1) (fun _ _ => rfl)) (@pa_nil _))) (@pe_int _ _ _ _) (nomark _)) (@pss_one _ _ _ (@ps_ret _ _ _ _ (@pe_slice _ _ _ _ _ _ _ _ _ _ sl_list (pe_callA f_words_of (hr.mono (by decide)) rfl (pa_cons (@pe_ix _ _ _ _ _ _ _ ix_list (pv 2) (pv 1) (fun _ _ => rfl)) (@pa_nil _))) (@po_none _) (@po_some _ _ _ (@pe_un _ _ _ _ _ _ un_neg (@pe_int _ _ _ _)))))) (@pss_nil _)))) (@pss_one _ _ _ (@ps_ret _ _ _ _ (@pe_non _ _ _)))), ?_⟩
    rw [show start ["rows", "s", "walks"] [V.ref r] = [some (V.ref r), none, none] from rfl]
    simp only [runs1, List.length_cons, List.length_nil, Nat.zero_add, List.replicate_succ, List.replicate_zero, List.drop_succ_cons, List.drop_zero, Int.zero_add, List.getElem?_cons_zero, List.getElem?_cons_succ, List.set_cons_zero, List.set_cons_succ, Option.some.injEq, V.int.injEq, V.ref.injEq, V.bl.injEq, V.ty.injEq, V.str.injEq, List.cons.injEq, List.append_nil, List.cons_append, List.nil_append, exists_eq, exists_eq', exists_eq_left, exists_eq_left', exists_and_left, exists_and_right, and_assoc, true_and, and_true, ↓reduceIte]
    refine ⟨⟨_, .of hr1⟩, ?_⟩
    refine for_enum (xs := xs) (fun i σ H2 => Same H H2 ∧ (∃ v1 v2, σ = [some (.ref r), v1, v2]) ∧ ∀ s, s < i → ∀ ws, Wk n k s s ws → 0 ≤ wk T s ws) ⟨Same.refl _, ⟨_, _, rfl⟩, fun s hs => by omega⟩ ?_ ?_ ?_
    · rintro i σ H2 hi ⟨S, _, _⟩
      exact S.seq (.of hr1)
    · rintro i x σ H2 U hx hU ⟨S, ⟨v1, v2, rfl⟩, no⟩
      have hi : i < n := by rw [← hlen]; exact (List.getElem?_eq_some_iff.mp hx).1
      obtain ⟨x', e1, R⟩ := hall i hi
      rw [hx] at e1
      cases e1
      obtain ⟨r2, zs, rfl, hr2, hl2, hz⟩ := R
      obtain ⟨y, ws, e2, hw, hL⟩ := hz i hi
      obtain ⟨p, l, rfl, hp, hl1⟩ := hw
      have SU : Same H (upd H2 U (.tup [V.int i, V.ref r2])) := Same.upd S (S.free hU)
      simp only [runs1, List.length_cons, List.length_nil, Nat.zero_add, List.replicate_succ, List.replicate_zero, List.drop_succ_cons, List.drop_zero, Int.zero_add, List.getElem?_cons_zero, List.getElem?_cons_succ, List.set_cons_zero, List.set_cons_succ, Option.some.injEq, V.int.injEq, V.ref.injEq, V.bl.injEq, V.ty.injEq, V.str.injEq, List.cons.injEq, List.append_nil, List.cons_append, List.nil_append, exists_eq, exists_eq', exists_eq_left, exists_eq_left', exists_and_left, exists_and_right, and_assoc, true_and, and_true, ↓reduceIte]
      refine ⟨_, .of upd_same, rfl, ?_⟩
      simp only [runs1, List.length_cons, List.length_nil, Nat.zero_add, List.replicate_succ, List.replicate_zero, List.drop_succ_cons, List.drop_zero, Int.zero_add, List.getElem?_cons_zero, List.getElem?_cons_succ, List.set_cons_zero, List.set_cons_succ, Option.some.injEq, V.int.injEq, V.ref.injEq, V.bl.injEq, V.ty.injEq, V.str.injEq, List.cons.injEq, List.append_nil, List.cons_append, List.nil_append, exists_eq, exists_eq', exists_eq_left, exists_eq_left', exists_and_left, exists_and_right, and_assoc, true_and, and_true, ↓reduceIte]
      refine ⟨_, .of (SU _ _ hr2), _, atI_nat e2, p, _, _, rfl, SU _ _ hp, ?_⟩
      simp only [runs1, List.length_cons, List.length_nil, Nat.zero_add, List.replicate_succ, List.replicate_zero, List.drop_succ_cons, List.drop_zero, Int.zero_add, List.getElem?_cons_zero, List.getElem?_cons_succ, List.set_cons_zero, List.set_cons_succ, Option.some.injEq, V.int.injEq, V.ref.injEq, V.bl.injEq, V.ty.injEq, V.str.injEq, List.cons.injEq, List.append_nil, List.cons_append, List.nil_append, exists_eq, exists_eq', exists_eq_left, exists_eq_left', exists_and_left, exists_and_right, and_assoc, true_and, and_true, ↓reduceIte]
      refine ite2 (fun h => ?_) (fun h => ?_)
      · refine ⟨_, .of (SU _ _ hr2), _, atI_nat e2, p, _, _, rfl, SU _ _ hp, ?_⟩
        simp only [runs1, List.length_cons, List.length_nil, Nat.zero_add, List.replicate_succ, List.replicate_zero, List.drop_succ_cons, List.drop_zero, Int.zero_add, List.getElem?_cons_zero, List.getElem?_cons_succ, List.set_cons_zero, List.set_cons_succ, Option.some.injEq, V.int.injEq, V.ref.injEq, V.bl.injEq, V.ty.injEq, V.str.injEq, List.cons.injEq, List.append_nil, List.cons_append, List.nil_append, exists_eq, exists_eq', exists_eq_left, exists_eq_left', exists_and_left, exists_and_right, and_assoc, true_and, and_true, ↓reduceIte]
        refine ⟨_, .of (SU _ _ hl1), fun b hb => ?_⟩
        refine q1 _ i ws b (Same.upd SU (SU.free hb)) ?_ hi hL.w (of_decide_eq_true h)
        rw [upd_same, show (-1 : Int) = -1 from rfl, cut_last, nI_dropLast]
      · refine ⟨SU, fun s hs us hu => ?_⟩
        by_cases e : s < i
        · exact no s e us hu
        · have : s = i := by omega
          subst this
          have z := hL.least us hu
          have : ¬ wk T s ws < 0 := fun y => h (decide_eq_true y)
          omega
    · rintro σ H2 ⟨S, ⟨v1, v2, rfl⟩, no⟩
      simp only [runs1, List.length_cons, List.length_nil, Nat.zero_add, List.replicate_succ, List.replicate_zero, List.drop_succ_cons, List.drop_zero, Int.zero_add, List.getElem?_cons_zero, List.getElem?_cons_succ, List.set_cons_zero, List.set_cons_succ, Option.some.injEq, V.int.injEq, V.ref.injEq, V.bl.injEq, V.ty.injEq, V.str.injEq, List.cons.injEq, List.append_nil, List.cons_append, List.nil_append, exists_eq, exists_eq', exists_eq_left, exists_eq_left', exists_and_left, exists_and_right, and_assoc, true_and, and_true, ↓reduceIte]
      exact q0 _ S fun s ws hs hw => no s (by omega) ws hw
theorem f_after_a_turn (B : Bt mg) (f_turn : FnAt P w K mg base "turn" 1 ["grid", "s", "t"] (spTurn K)) (D : DefIn K mg "after_a_turn" s_after_a_turn ["grid", "totals", "t"]) : FnAt P w K mg base "after_a_turn" 2 ["grid", "totals", "t"] (spAfter K) := by
  refine FnAt.of D sc_after_a_turn (fun vs H Q E h => ?_) (fun f cdv A outer s H vs Q E hr h => ?_)
  · obtain ⟨g, l, rows, ts, n, t, rfl, _⟩ := h
    rfl
  · obtain ⟨g, l, rows, ts, n, t, rfl, G, hn, hl, lt, ht, q⟩ := h
    have n8 := G.n8
    refine ⟨_, (@pss_one _ _ _ (@ps_ret _ _ _ _ (pe_callB (call_minL rfl) rfl B.min bt_min (pa_cons (pe_comp ["s", "total"] ["grid", "totals", "t"] rfl (pi_enumerate rfl B.enumerate (pa_cons (pv 1) (@pa_nil _))) (fun _ => (pg_tup rfl (pgs_cons (pg_name (i := 0) (show (["s", "total", "grid", "totals", "t"] : List Str).Nodup by decide +kernel) rfl (Or.inl rfl)) (pgs_cons (pg_name (i := 1) (show (["s", "total", "grid", "totals", "t"] : List Str).Nodup by decide +kernel) rfl (Or.inl rfl)) (@pgs_nil _))))) (fun _ => (@pts_nil _)) (fun _ => (@pe_op _ _ _ _ _ _ _ _ op_add (pv 1) (pe_callA f_turn (hr.mono (by decide)) rfl (pa_cons (pv 2) (pa_cons (pv 0) (pa_cons (pv 4) (@pa_nil _))))))) rfl (by decide +kernel) rfl rfl) (@pa_nil _))))), ?_⟩
    rw [show start ["grid", "totals", "t"] [V.ref g, V.ref l, V.int t] = [some (V.ref g), some (V.ref l), some (V.int t)] from rfl]
    simp only [runs1, List.length_cons, List.length_nil, Nat.zero_add, List.replicate_succ, List.replicate_zero, List.drop_succ_cons, List.drop_zero, Int.zero_add, List.getElem?_cons_zero, List.getElem?_cons_succ, List.set_cons_zero, List.set_cons_succ, Option.some.injEq, V.int.injEq, V.ref.injEq, V.bl.injEq, V.ty.injEq, V.str.injEq, List.cons.injEq, List.append_nil, List.cons_append, List.nil_append, exists_eq, exists_eq', exists_eq_left, exists_eq_left', exists_and_left, exists_and_right, and_assoc, true_and, and_true, ↓reduceIte]
    refine ⟨⟨_, hl⟩, fun d => ?_⟩
    refine comp_enum (xs := ts.map V.int) (PvAft H) ⟨Same.refl _, [], rfl, rfl⟩ ?_ ?_ ?_
    · rintro i ys H2 hi ⟨S, ns, ln, rfl⟩
      rw [List.length_map] at hi
      exact ⟨by rw [List.length_map, ln]; exact Nat.le_trans hi (Nat.le_trans (show ts.length ≤ 8 by omega) (by decide)), S.seq hl⟩
    · rintro i x ys H2 T hx hT ⟨S, ns, ln, rfl⟩
      rw [List.getElem?_map] at hx
      obtain ⟨y, hy⟩ : ∃ y, ts[i]? = some y := by
        cases e : ts[i]? with
        | none => rw [e] at hx; cases hx
        | some y => exact ⟨y, rfl⟩
      rw [hy] at hx
      cases hx
      have hi : i < n := by have := (List.getElem?_eq_some_iff.mp hy).1; omega
      have S1 : Same H2 (upd H2 T (.tup [V.int i, V.int y])) := Same.upd (Same.refl _) hT
      simp only [runs1, List.length_cons, List.length_nil, Nat.zero_add, List.replicate_succ, List.replicate_zero, List.drop_succ_cons, List.drop_zero, Int.zero_add, List.getElem?_cons_zero, List.getElem?_cons_succ, List.set_cons_zero, List.set_cons_succ, Option.some.injEq, V.int.injEq, V.ref.injEq, V.bl.injEq, V.ty.injEq, V.str.injEq, List.cons.injEq, List.append_nil, List.cons_append, List.nil_append, exists_eq, exists_eq', exists_eq_left, exists_eq_left', exists_and_left, exists_and_right, and_assoc, true_and, and_true, ↓reduceIte]
      refine ⟨_, .of upd_same, rfl, ?_⟩
      generalize upd H2 T (.tup [V.int i, V.int y]) = H3 at *
      simp only [runs1, List.length_cons, List.length_nil, Nat.zero_add, List.replicate_succ, List.replicate_zero, List.drop_succ_cons, List.drop_zero, Int.zero_add, List.getElem?_cons_zero, List.getElem?_cons_succ, List.set_cons_zero, List.set_cons_succ, Option.some.injEq, V.int.injEq, V.ref.injEq, V.bl.injEq, V.ty.injEq, V.str.injEq, List.cons.injEq, List.append_nil, List.cons_append, List.nil_append, exists_eq, exists_eq', exists_eq_left, exists_eq_left', exists_and_left, exists_and_right, and_assoc, true_and, and_true, ↓reduceIte]
      refine spTurn_of (G.mono (S.trans S1)) hi ht ?_
      simp only [runs1, List.length_cons, List.length_nil, Nat.zero_add, List.replicate_succ, List.replicate_zero, List.drop_succ_cons, List.drop_zero, Int.zero_add, List.getElem?_cons_zero, List.getElem?_cons_succ, List.set_cons_zero, List.set_cons_succ, Option.some.injEq, V.int.injEq, V.ref.injEq, V.bl.injEq, V.ty.injEq, V.str.injEq, List.cons.injEq, List.append_nil, List.cons_append, List.nil_append, exists_eq, exists_eq', exists_eq_left, exists_eq_left', exists_and_left, exists_and_right, and_assoc, true_and, and_true, ↓reduceIte]
      exact ⟨S.trans S1, ns ++ [y + turnA rows i t], by simp [ln], by simp⟩
    · rintro ys H2 ⟨S, ns, ln, rfl⟩ p hp
      rw [List.length_map, lt] at ln
      exact ⟨_, .of upd_same, by omega, fun m _ _ => q _ m (S.trans (Same.upd (Same.refl _) hp))⟩
theorem f_has_honest (B : Bt mg) (f_after_a_turn : FnAt P w K mg base "after_a_turn" 2 ["grid", "totals", "t"] (spAfter K)) (f_first_gain : FnAt P w K mg base "first_gain" 3 ["grid", "pays"] (spFG K)) (D : DefIn K mg "has_honest" s_has_honest ["grid"]) : FnAt P w K mg base "has_honest" 4 ["grid"] (spHas K) := by
  refine FnAt.of D sc_has_honest (fun vs H Q E h => ?_) (fun f cdv A outer s H vs Q E hr h => ?_)
  · obtain ⟨g, rows, n, rfl, _⟩ := h
    rfl
  · obtain ⟨g, rows, n, rfl, G, hn, q⟩ := h
    have n8 := G.n8
    refine ⟨_, (@pss_cons _ _ _ _ _ (ps_set (i := 1) sc_has_honest.nd rfl (Or.inr rfl) (pe_comp ["row"] ["grid", "totals", "size"] rfl (@pi_list _ _ _ _ (pv 0)) (fun _ => (pg_name (i := 0) (show (["row", "grid", "totals", "size"] : List Str).Nodup by decide +kernel) rfl (Or.inl rfl))) (fun _ => (@pts_nil _)) (fun _ => (@pe_int _ _ _ _)) rfl (by decide +kernel) rfl rfl)) (@pss_cons _ _ _ _ _ (ps_for PassesOwn.never rfl (pi_range2 rfl B.range (pa_cons (@pe_int _ _ _ _) (pa_cons (@pe_op _ _ _ _ _ _ _ _ op_add (pe_callB call_len_seq rfl B.len bt_len (pa_cons (pv 0) (@pa_nil _))) (@pe_int _ _ _ _)) (@pa_nil _)))) (pg_name (i := 2) sc_has_honest.nd rfl (Or.inl rfl)) (@pss_one _ _ _ (ps_set (i := 1) sc_has_honest.nd rfl (Or.inr rfl) (pe_comp ["t"] ["grid", "totals", "size"] rfl (pi_range1 rfl B.range (pa_cons (pe_callB call_len_seq rfl B.len bt_len (pa_cons (pv 0) (@pa_nil _))) (@pa_nil _))) (fun _ => (pg_name (i := 0) (show (["t", "grid", "totals", "size"] : List Str).Nodup by decide +kernel) rfl (Or.inl rfl))) (fun _ => (@pts_nil _)) (fun _ => (pe_callA f_after_a_turn (hr.mono (by decide)) rfl (pa_cons (pv 1) (pa_cons (pv 2) (pa_cons (pv 0) (@pa_nil _)))))) rfl (by decide +kernel) rfl rfl)))) (@pss_one _ _ _ (@ps_ret _ _ _ _ (@pe_cmpR _ _ _ _ _ _ _ _ op_isN (pe_callA f_first_gain (hr.mono (by decide)) rfl (pa_cons (pv 0) (pa_cons (pv 1) (@pa_nil _)))) (@pe_non _ _ _) (nomark _)))))), ?_⟩
    rw [show start ["grid", "totals", "size"] [V.ref g] = [some (V.ref g), none, none] from rfl]
    simp only [runs1, List.length_cons, List.length_nil, Nat.zero_add, List.replicate_succ, List.replicate_zero, List.drop_succ_cons, List.drop_zero, Int.zero_add, List.getElem?_cons_zero, List.getElem?_cons_succ, List.set_cons_zero, List.set_cons_succ, Option.some.injEq, V.int.injEq, V.ref.injEq, V.bl.injEq, V.ty.injEq, V.str.injEq, List.cons.injEq, List.append_nil, List.cons_append, List.nil_append, exists_eq, exists_eq', exists_eq_left, exists_eq_left', exists_and_left, exists_and_right, and_assoc, true_and, and_true, ↓reduceIte]
    obtain ⟨as, h1, h2⟩ := G.ex
    refine ⟨⟨_, h1.1⟩, fun d => ?_⟩
    refine comp_list (xs := as.map V.ref) (PvAft H) ⟨Same.refl _, [], rfl, rfl⟩ ?_ ?_ ?_
    · rintro i ys H2 hi ⟨S, ns, ln, rfl⟩
      rw [List.length_map, h2] at hi
      exact ⟨by rw [List.length_map, ln]; exact Nat.le_trans hi (Nat.le_trans n8 (by decide)), S.seq h1.1⟩
    · rintro i x ys H2 hx ⟨S, ns, ln, rfl⟩
      simp only [runs1, List.length_cons, List.length_nil, Nat.zero_add, List.replicate_succ, List.replicate_zero, List.drop_succ_cons, List.drop_zero, Int.zero_add, List.getElem?_cons_zero, List.getElem?_cons_succ, List.set_cons_zero, List.set_cons_succ, Option.some.injEq, V.int.injEq, V.ref.injEq, V.bl.injEq, V.ty.injEq, V.str.injEq, List.cons.injEq, List.append_nil, List.cons_append, List.nil_append, exists_eq, exists_eq', exists_eq_left, exists_eq_left', exists_and_left, exists_and_right, and_assoc, true_and, and_true, ↓reduceIte]
      exact ⟨S, ns ++ [0], by simp [ln], by simp⟩
    · rintro ys H2 ⟨S, ns, ln, rfl⟩ p hp
      rw [List.length_map, h2] at ln
      have S1 : Same H (upd H2 p (.lst (ns.map V.int))) := S.trans (Same.upd (Same.refl _) hp)
      have p1 : upd H2 p (.lst (ns.map V.int)) p = some (.lst (ns.map V.int)) := upd_same
      generalize upd H2 p (.lst (ns.map V.int)) = H3 at *
      refine ⟨_, .inl (S1.seq h1.1), ?_⟩
      rw [List.length_map, h2]
      refine ⟨by omega, by omega, by omega, by omega, ?_⟩
      rw [show ((n : Int) + 1 - 2).toNat = n - 1 by omega]
      refine for_range (PvTotH H g n) ⟨S1, p, ns, _, p1, ln, rfl⟩ ?_ ?_
      · rintro i σ H4 hi ⟨S4, p4, ts, v, hp4, lt, rfl⟩
        simp only [runs1, List.length_cons, List.length_nil, Nat.zero_add, List.replicate_succ, List.replicate_zero, List.drop_succ_cons, List.drop_zero, Int.zero_add, List.getElem?_cons_zero, List.getElem?_cons_succ, List.set_cons_zero, List.set_cons_succ, Option.some.injEq, V.int.injEq, V.ref.injEq, V.bl.injEq, V.ty.injEq, V.str.injEq, List.cons.injEq, List.append_nil, List.cons_append, List.nil_append, exists_eq, exists_eq', exists_eq_left, exists_eq_left', exists_and_left, exists_and_right, and_assoc, true_and, and_true, ↓reduceIte]
        refine ⟨_, .inl (S4.seq h1.1), ?_⟩
        rw [List.length_map, h2]
        refine ⟨by omega, by omega, fun d2 => ?_⟩
        rw [Int.toNat_natCast]
        refine comp_range (PvAft H4) ⟨Same.refl _, [], rfl, rfl⟩ ?_ ?_ ?_
        · rintro j ys H5 hj ⟨S5, ms, lm, rfl⟩
          rw [List.length_map, lm]
          exact Nat.le_trans hj (Nat.le_trans n8 (by decide))
        · rintro j ys H5 hj ⟨S5, ms, lm, rfl⟩
          simp only [runs1, List.length_cons, List.length_nil, Nat.zero_add, List.replicate_succ, List.replicate_zero, List.drop_succ_cons, List.drop_zero, Int.zero_add, List.getElem?_cons_zero, List.getElem?_cons_succ, List.set_cons_zero, List.set_cons_succ, Option.some.injEq, V.int.injEq, V.ref.injEq, V.bl.injEq, V.ty.injEq, V.str.injEq, List.cons.injEq, List.append_nil, List.cons_append, List.nil_append, exists_eq, exists_eq', exists_eq_left, exists_eq_left', exists_and_left, exists_and_right, and_assoc, true_and, and_true, ↓reduceIte]
          exact ⟨g, p4, rows, ts, n, j, rfl, G.mono (S4.trans S5), hn, .of (S5 _ _ hp4), lt, hj, fun H6 m S6 => ⟨S5.trans S6, ms ++ [m], by simp [lm], by simp⟩⟩
        · rintro ys H5 ⟨S5, ms, lm, rfl⟩ p5 hp5
          exact ⟨S4.trans (S5.trans (Same.upd (Same.refl _) hp5)), p5, ms, _, upd_same, lm, rfl⟩
      · rintro σ H4 ⟨S4, p4, ts, v, hp4, lt, rfl⟩
        simp only [runs1, List.length_cons, List.length_nil, Nat.zero_add, List.replicate_succ, List.replicate_zero, List.drop_succ_cons, List.drop_zero, Int.zero_add, List.getElem?_cons_zero, List.getElem?_cons_succ, List.set_cons_zero, List.set_cons_succ, Option.some.injEq, V.int.injEq, V.ref.injEq, V.bl.injEq, V.ty.injEq, V.str.injEq, List.cons.injEq, List.append_nil, List.cons_append, List.nil_append, exists_eq, exists_eq', exists_eq_left, exists_eq_left', exists_and_left, exists_and_right, and_assoc, true_and, and_true, ↓reduceIte]
        refine ⟨g, p4, as, rows, ts, n, rfl, (GridL.mono S4 h1), h2, .of hp4, lt, n8, G.sq, fun h => ?_, fun t s h l hl => ?_⟩
        · exact q H4 true S4 fun _ => ⟨ts, fun t s ht hs => by
            have := h t s ht hs
            unfold gainA at this
            omega⟩
        · exact q _ false (S4.trans (Same.upd (Same.refl _) hl)) fun z => by cases z
theorem f_ring (B : Bt mg) (f_has_honest : FnAt P w K mg base "has_honest" 4 ["grid"] (spHas K)) (f_walks_of_one_turn : FnAt P w K mg base "walks_of_one_turn" 2 ["grid", "s"] (spOne K)) (f_lengthened : FnAt P w K mg base "lengthened" 4 ["grid", "walks"] (spLong K)) (f_closed_below_zero : FnAt P w K mg base "closed_below_zero" 2 ["rows"] spClosed)
    (D : DefIn K mg "ring" s_ring ["grid"]) : FnAt P w K mg base "ring" 5 ["grid"] (spRing K) := by
  refine FnAt.of D sc_ring (fun vs H Q E h => ?_) (fun f cdv A outer s H vs Q E hr h => ?_)
  · obtain ⟨g, rows, n, rfl, _⟩ := h
    rfl
  · obtain ⟨g, rows, n, rfl, G0, hn, q00, q10⟩ := h
    have n8 := G0.n8
    refine ⟨_, (@pss_cons _ _ _ _ _ (@ps_if _ _ _ _ _ _ _ _ (pt_val (pe_callA f_has_honest (hr.mono (by decide)) rfl (pa_cons (pv 0) (@pa_nil _)))) (@pss_one _ _ _ (@ps_ret _ _ _ _ (@pe_non _ _ _))) (@pss_nil _)) (@pss_cons _ _ _ _ _ (ps_setC (i := 1) ["s"] ["grid", "rows", "size", "found"] sc_ring.nd rfl rfl rfl (pi_range1 rfl B.range (pa_cons (pe_callB call_len_seq rfl B.len bt_len (pa_cons (pv 0) (@pa_nil _))) (@pa_nil _))) (fun _ => (pg_name (i := 0) (show (["s", "grid", "rows", "size", "found"] : List Str).Nodup by decide +kernel) rfl (Or.inl rfl))) (fun _ => (@pts_nil _)) (fun _ => (pe_callA f_walks_of_one_turn (hr.mono (by decide)) rfl (pa_cons (pv 1) (pa_cons (pv 0) (@pa_nil _))))) rfl (by decide +kernel) rfl rfl rfl) (@pss_cons _ _ _ _ _ (ps_for PassesOwn.never rfl (pi_range2 rfl B.range (pa_cons (@pe_int _ _ _ _) (pa_cons (@pe_op _ _ _ _ _ _ _ _ op_add (pe_callB call_len_seq rfl B.len bt_len (pa_cons (pv 0) (@pa_nil _))) (@pe_int _ _ _ _)) (@pa_nil _)))) (pg_name (i := 2) sc_ring.nd rfl (Or.inl rfl)) (@pss_cons _ _ _ _ _ (ps_setC (i := 1) ["walks"] ["grid", "rows", "size", "found"] sc_ring.nd rfl rfl rfl (@pi_list _ _ _ _ (pv 1)) (fun _ => (pg_name (i := 0) (show (["walks", "grid", "rows", "size", "found"] : List Str).Nodup by decide +kernel) rfl (Or.inl rfl))) (fun _ => (@pts_nil _)) (fun _ => (pe_callA f_lengthened (hr.mono (by decide)) rfl (pa_cons (pv 1) (pa_cons (pv 0) (@pa_nil _))))) rfl (by decide +kernel) rfl rfl rfl) (@pss_cons _ _ _ _ _ (ps_set (i := 3) sc_ring.nd rfl (Or.inl rfl) (pe_callA f_closed_below_zero (hr.mono (by decide)) rfl (pa_cons (pv 1) (@pa_nil _)))) (@pss_one _ _ _ (@ps_if _ _ _ _ _ _ _ _ (@pt_cmpR _ _ _ _ _ _ _ _ op_notN (pv 3) (@pe_non _ _ _) (nomark _)) (@pss_one _ _ _ (@ps_ret _ _ _ _ (pv 3))) (@pss_nil _)))))) (@pss_one _ _ _ (@ps_ret _ _ _ _ (@pe_non _ _ _)))))), ?_⟩
    rw [show start ["grid", "rows", "size", "found"] [V.ref g] = [some (V.ref g), none, none, none] from rfl]
    simp only [runs1, List.length_cons, List.length_nil, Nat.zero_add, List.replicate_succ, List.replicate_zero, List.drop_succ_cons, List.drop_zero, Int.zero_add, List.getElem?_cons_zero, List.getElem?_cons_succ, List.set_cons_zero, List.set_cons_succ, Option.some.injEq, V.int.injEq, V.ref.injEq, V.bl.injEq, V.ty.injEq, V.str.injEq, List.cons.injEq, List.append_nil, List.cons_append, List.nil_append, exists_eq, exists_eq', exists_eq_left, exists_eq_left', exists_and_left, exists_and_right, and_assoc, true_and, and_true, ↓reduceIte]
    refine ⟨g, rows, n, rfl, G0, hn, fun H0 hb S0 hHon => ?_⟩
    refine ⟨hb, rfl, ite2 (fun hy => ?_) fun _ => ?_⟩
    · obtain ⟨ps, hps⟩ := hHon hy
      exact q00 H0 S0 fun j _ => hps.no j
    have G := G0.mono S0
    have q0 : ∀ H', Same H0 H' → (∀ j, j ≤ n → NoNeg (turnA rows) n j) → Q .non H' := fun H' S' h => q00 H' (S0.trans S') h
    have q1 : ∀ H' l c, Same H0 H' → H' l = some (.lst ((nI c).map V.int)) → RingA (turnA rows) n c → Q (.ref l) H' := fun H' l c S' h1 h2 => q10 H' l c (S0.trans S') h1 h2
    obtain ⟨as, h1, h2⟩ := G.ex
    refine ⟨_, .inl h1.1, ?_⟩
    rw [List.length_map, h2]
    refine ⟨by omega, by omega, fun d => ?_⟩
    rw [Int.toNat_natCast]
    refine comp_range (RowsPre H0 (turnA rows) n 1) ⟨Same.refl _, rfl, fun t ht => by omega⟩ ?_ ?_ ?_
    · rintro i ys H' hi h
      rw [h.2.1]
      exact Nat.le_trans hi (Nat.le_trans n8 (by decide))
    · rintro i ys H' hi h
      simp only [runs1, List.length_cons, List.length_nil, Nat.zero_add, List.replicate_succ, List.replicate_zero, List.drop_succ_cons, List.drop_zero, Int.zero_add, List.getElem?_cons_zero, List.getElem?_cons_succ, List.set_cons_zero, List.set_cons_succ, Option.some.injEq, V.int.injEq, V.ref.injEq, V.bl.injEq, V.ty.injEq, V.str.injEq, List.cons.injEq, List.append_nil, List.cons_append, List.nil_append, exists_eq, exists_eq', exists_eq_left, exists_eq_left', exists_and_left, exists_and_right, and_assoc, true_and, and_true, ↓reduceIte]
      exact ⟨g, rows, n, i, rfl, G.mono h.1, hi, fun H2 x S1 hR => h.snoc S1 hR⟩
    · rintro ys H' h l hl
      obtain ⟨S, R⟩ := h.done hl
      generalize upd H' l (.lst ys) = H1 at *
      refine ⟨_, .inl (S.seq h1.1), ?_⟩
      rw [List.length_map, h2]
      refine ⟨by omega, by omega, by omega, by omega, ?_⟩
      rw [show ((n : Int) + 1 - 2).toNat = n - 1 by omega]
      refine for_range (fun i σ H2 => Same H0 H2 ∧ (∃ v v2 v3, σ = [some (.ref g), some v, v2, v3] ∧ RowsAt H2 v (turnA rows) n (i + 1)) ∧ ∀ j, j ≤ i + 1 → NoNeg (turnA rows) n j) ⟨S, ⟨_, _, _, rfl, R⟩, fun j hj => ?_⟩ ?_ ?_
      · have : j = 0 ∨ j = 1 := by omega
        rcases this with rfl | rfl
        · exact NoNeg.zero _ _
        · exact NoNeg.one (turnA_self rows) _
      · rintro i σ H2 hi ⟨S2, ⟨v, v2, v3, rfl, ⟨r, xs, rfl, hr1, hlen, hall⟩⟩, no⟩
        simp only [runs1, List.length_cons, List.length_nil, Nat.zero_add, List.replicate_succ, List.replicate_zero, List.drop_succ_cons, List.drop_zero, Int.zero_add, List.getElem?_cons_zero, List.getElem?_cons_succ, List.set_cons_zero, List.set_cons_succ, Option.some.injEq, V.int.injEq, V.ref.injEq, V.bl.injEq, V.ty.injEq, V.str.injEq, List.cons.injEq, List.append_nil, List.cons_append, List.nil_append, exists_eq, exists_eq', exists_eq_left, exists_eq_left', exists_and_left, exists_and_right, and_assoc, true_and, and_true, ↓reduceIte]
        refine ⟨⟨_, .of hr1⟩, fun d2 => ?_⟩
        refine comp_list (xs := xs) (RowsPre H2 (turnA rows) n (i + 1 + 1)) ⟨Same.refl _, rfl, fun t ht => by omega⟩ ?_ ?_ ?_
        · rintro j ys H' hj h
          rw [h.2.1]
          exact ⟨Nat.le_trans hj (Nat.le_trans (by omega) (show 8 ≤ sizeLine by decide)), h.1.seq (.of hr1)⟩
        · rintro j x ys H' hx h
          have hj : j < n := by rw [← hlen]; exact (List.getElem?_eq_some_iff.mp hx).1
          obtain ⟨x', e1, R⟩ := hall j hj
          rw [hx] at e1
          cases e1
          simp only [runs1, List.length_cons, List.length_nil, Nat.zero_add, List.replicate_succ, List.replicate_zero, List.drop_succ_cons, List.drop_zero, Int.zero_add, List.getElem?_cons_zero, List.getElem?_cons_succ, List.set_cons_zero, List.set_cons_succ, Option.some.injEq, V.int.injEq, V.ref.injEq, V.bl.injEq, V.ty.injEq, V.str.injEq, List.cons.injEq, List.append_nil, List.cons_append, List.nil_append, exists_eq, exists_eq', exists_eq_left, exists_eq_left', exists_and_left, exists_and_right, and_assoc, true_and, and_true, ↓reduceIte]
          exact ⟨g, rows, x, n, i + 1, j, rfl, G.mono (S2.trans h.1), R.mono h.1, hj, by omega, by omega, fun H3 v' S3 hR => h.snoc S3 hR⟩
        · rintro ys H' h l hl
          rw [hlen] at h
          obtain ⟨S3, R3⟩ := h.done hl
          generalize upd H' l (.lst ys) = H3 at *
          refine ⟨turnA rows, .ref l, n, i + 2, rfl, R3, by omega, n8, fun H4 S4 hno => ?_, fun H4 s ws b S4 hb hs hw hneg => ?_⟩
          · simp only [runs1, List.length_cons, List.length_nil, Nat.zero_add, List.replicate_succ, List.replicate_zero, List.drop_succ_cons, List.drop_zero, Int.zero_add, List.getElem?_cons_zero, List.getElem?_cons_succ, List.set_cons_zero, List.set_cons_succ, Option.some.injEq, V.int.injEq, V.ref.injEq, V.bl.injEq, V.ty.injEq, V.str.injEq, List.cons.injEq, List.append_nil, List.cons_append, List.nil_append, exists_eq, exists_eq', exists_eq_left, exists_eq_left', exists_and_left, exists_and_right, and_assoc, true_and, and_true, ↓reduceIte]
            refine ⟨S2.trans (S3.trans S4), R3.mono S4, fun j hj => ?_⟩
            by_cases e : j ≤ i + 1
            · exact no j e
            · have : j = i + 2 := by omega
              subst this
              exact hno
          · simp only [runs1, List.length_cons, List.length_nil, Nat.zero_add, List.replicate_succ, List.replicate_zero, List.drop_succ_cons, List.drop_zero, Int.zero_add, List.getElem?_cons_zero, List.getElem?_cons_succ, List.set_cons_zero, List.set_cons_succ, Option.some.injEq, V.int.injEq, V.ref.injEq, V.bl.injEq, V.ty.injEq, V.str.injEq, List.cons.injEq, List.append_nil, List.cons_append, List.nil_append, exists_eq, exists_eq', exists_eq_left, exists_eq_left', exists_and_left, exists_and_right, and_assoc, true_and, and_true, ↓reduceIte]
            refine q1 H4 b _ (S2.trans (S3.trans S4)) hb (RingA.of (turnA_self rows) hs hw hneg fun j hj => no j (by omega))
      · rintro σ H2 ⟨S2, ⟨v, v2, v3, rfl, _⟩, no⟩
        simp only [runs1, List.length_cons, List.length_nil, Nat.zero_add, List.replicate_succ, List.replicate_zero, List.drop_succ_cons, List.drop_zero, Int.zero_add, List.getElem?_cons_zero, List.getElem?_cons_succ, List.set_cons_zero, List.set_cons_succ, Option.some.injEq, V.int.injEq, V.ref.injEq, V.bl.injEq, V.ty.injEq, V.str.injEq, List.cons.injEq, List.append_nil, List.cons_append, List.nil_append, exists_eq, exists_eq', exists_eq_left, exists_eq_left', exists_and_left, exists_and_right, and_assoc, true_and, and_true, ↓reduceIte]
        exact q0 H2 S2 fun j hj => no j (by omega)
end

/-! ### least roads: a walk (total, words) for each end; b what a road that begins with s has ahead, S where one may begin -/
structure Rd (T : Nat → Nat → Int) (b : Nat → Int) (S : Nat → Prop) (n k t : Nat) (e : Int × List Nat) : Prop where
  ex : ∃ s ws, e.2 = s :: ws ∧ S s ∧ s < n ∧ lst s ws = t ∧ (∀ x ∈ ws, x < n) ∧ e.1 = b s + wk T s ws ∧ (s :: ws).Nodup ∧ ws.length ≤ k
def Low (T : Nat → Nat → Int) (b : Nat → Int) (S : Nat → Prop) (n k t : Nat) (i : Int) : Prop := ∀ s ws, S s → s < n → lst s ws = t → (∀ x ∈ ws, x < n) → ws.length ≤ k → i ≤ b s + wk T s ws
structure Rds (T : Nat → Nat → Int) (b : Nat → Int) (S : Nat → Prop) (n k : Nat) (f : Nat → Int × List Nat) : Prop where
  rd : ∀ t, t < n → Rd T b S n k t (f t)
  low : ∀ t, t < n → Low T b S n k t (f t).1
theorem lst_lt' {n : Nat} : ∀ (ws : List Nat) (s : Nat), s < n → (∀ x ∈ ws, x < n) → lst s ws < n
  | [], _, h, _ => h
  | w :: ws, _, _, h => lst_lt' ws w (h w List.mem_cons_self) fun x hx => h x (List.mem_cons_of_mem _ hx)
theorem lst_lt {n : Nat} {ws : List Nat} {s : Nat} (hs : s < n) (h : ∀ x ∈ ws, x < n) : lst s ws < n := lst_lt' ws s hs h
/-- a road that is led on to one of its own words comes to no less than one that stands already -/
theorem back {T : Nat → Nat → Int} {b : Nat → Int} {S : Nat → Prop} {n k i t s : Nat} {ws : List Nat} {m : Int} (no : ∀ k, NoNeg T n k) (ht : t < n) (hS : S s) (hs : s < n) (hto : lst s ws = i) (hlt : ∀ x ∈ ws, x < n) (hk : ws.length ≤ k) (hl : Low T b S n k t m) (hm : t ∈ s :: ws) : m ≤ b s + wk T s ws + T i t := by
  have closed : ∀ C : List Nat, (∀ x ∈ C, x < n) → lst t C = i → 0 ≤ wk T t C + T i t := fun C hC hi => by
    have := no (C.length + 1) t (C ++ [t]) ht ⟨by simp, fun x hx => by
      rcases List.mem_append.mp hx with z | z
      · exact hC x z
      · rw [List.mem_singleton.mp z]; exact ht, lst_snoc _ _ _⟩
    rw [wk_snoc, hi] at this
    exact this
  rcases List.mem_cons.mp hm with z | z
  · subst z
    have h1 := hl t [] hS hs rfl (fun x hx => nomatch hx) (Nat.zero_le _)
    have h2 := closed ws hlt hto
    have h3 : wk T t [] = 0 := rfl
    omega
  · obtain ⟨A, C, rfl⟩ := List.append_of_mem z
    have hA : ∀ x ∈ A ++ [t], x < n := fun x hx => hlt x (by
      rcases List.mem_append.mp hx with z | z
      · exact List.mem_append_left _ z
      · rw [List.mem_singleton.mp z]; simp)
    have h1 := hl s (A ++ [t]) hS hs (lst_snoc _ _ _) hA (by simp at hk ⊢; omega)
    rw [lst_app] at hto
    have h2 := closed C (fun x hx => hlt x (List.mem_append_right _ (List.mem_cons_of_mem _ hx))) hto
    rw [wk_app]
    omega
theorem Rds.step {T : Nat → Nat → Int} {b : Nat → Int} {S : Nat → Prop} {n k : Nat} {f f' : Nat → Int × List Nat} (no : ∀ k, NoNeg T n k) (R : Rds T b S n k f)
    (h : ∀ t, t < n → ∃ i, i < n ∧ (∀ u, u < n → (f i).1 + T i t ≤ (f u).1 + T u t) ∧ (((f i).1 + T i t < (f t).1 ∧ f' t = ((f i).1 + T i t, (f i).2 ++ [t])) ∨ ((f t).1 ≤ (f i).1 + T i t ∧ f' t = f t))) : Rds T b S n (k + 1) f' := by
  refine ⟨fun t ht => ?_, fun t ht => ?_⟩
  · obtain ⟨i, hi, hm, hc⟩ := h t ht
    rcases hc with ⟨hlt, e⟩ | ⟨_, e⟩
    · obtain ⟨s, ws, e1, hS, hs, hto, hw, hv, hd, hk⟩ := (R.rd i hi).ex
      have hn : t ∉ s :: ws := fun z => by
        have := back no ht hS hs hto hw hk (R.low t ht) z
        omega
      rw [e]
      refine ⟨s, ws ++ [t], by rw [e1]; rfl, hS, hs, lst_snoc _ _ _, fun x hx => ?_, ?_, ?_, by simp; exact hk⟩
      · rcases List.mem_append.mp hx with z | z
        · exact hw x z
        · rw [List.mem_singleton.mp z]; exact ht
      · show (f i).1 + T i t = _
        rw [wk_snoc, hto, hv]; omega
      · show ((s :: ws) ++ [t]).Nodup
        refine List.nodup_append.mpr ⟨hd, by simp, fun x hx y hy => ?_⟩
        rw [List.mem_singleton.mp hy]
        rintro rfl
        exact hn hx
    · obtain ⟨s, ws, e1, hS, hs, hto, hw, hv, hd, hk⟩ := (R.rd t ht).ex
      rw [e]
      exact ⟨s, ws, e1, hS, hs, hto, hw, hv, hd, by omega⟩
  · obtain ⟨i, hi, hm, hc⟩ := h t ht
    have h1 : (f' t).1 ≤ (f t).1 ∧ (f' t).1 ≤ (f i).1 + T i t := by
      rcases hc with ⟨hlt, e⟩ | ⟨hlt, e⟩ <;> rw [e]
      · exact ⟨by show (f i).1 + T i t ≤ _; omega, Int.le_refl _⟩
      · exact ⟨Int.le_refl _, hlt⟩
    intro s ws hS hs hto hw hk
    by_cases hk' : ws.length ≤ k
    · have := R.low t ht s ws hS hs hto hw hk'
      omega
    · obtain ⟨w, r, rfl⟩ : ∃ w r, ws = w :: r := by
        cases ws with
        | nil => simp at hk'
        | cons w r => exact ⟨w, r, rfl⟩
      have e1 := dropLast_lst r w
      have e2 : lst w r = t := hto
      rw [e2] at e1
      generalize hp : (w :: r).dropLast = p at e1
      rw [e1] at hw hk ⊢
      have hwp : ∀ x ∈ p, x < n := fun x hx => hw x (List.mem_append_left _ hx)
      have hu := lst_lt hs hwp
      have q1 := R.low (lst s p) hu s p hS hs rfl hwp (by simp at hk; exact hk)
      have q2 := hm (lst s p) hu
      rw [wk_snoc]
      omega
theorem Rds.honest {T : Nat → Nat → Int} {b : Nat → Int} {S : Nat → Prop} {n k : Nat} {f : Nat → Int × List Nat} (no : ∀ k, NoNeg T n k) (R : Rds T b S n k f) (hk : n ≤ k + 1) {s t : Nat} (hs : s < n) (ht : t < n) : (f t).1 ≤ (f s).1 + T s t := by
  obtain ⟨s0, ws, e1, hS, hs0, hto, hw, hv, hd, hk2⟩ := (R.rd s hs).ex
  by_cases hm : t ∈ s0 :: ws
  · have := back no ht hS hs0 hto hw hk2 (R.low t ht) hm
    omega
  · have hd2 : (s0 :: (ws ++ [t])).Nodup := by
      show ((s0 :: ws) ++ [t]).Nodup
      refine List.nodup_append.mpr ⟨hd, by simp, fun x hx y hy => ?_⟩
      rw [List.mem_singleton.mp hy]
      rintro rfl
      exact hm hx
    have hw2 : ∀ x ∈ ws ++ [t], x < n := fun x hx => by
      rcases List.mem_append.mp hx with z | z
      · exact hw x z
      · rw [List.mem_singleton.mp z]; exact ht
    have hl := few hd2 (fun x hx => by
      rcases List.mem_cons.mp hx with z | z
      · rw [z]; exact hs0
      · exact hw2 x z)
    have := R.low t ht s0 (ws ++ [t]) hS hs0 (lst_snoc _ _ _) hw2 (by simp at hl ⊢; omega)
    rw [wk_snoc, hto] at this
    omega
theorem Rds.one {T : Nat → Nat → Int} {b : Nat → Int} {n : Nat} {f : Nat → Int × List Nat} (h : ∀ t, t < n → f t = (b t, [t])) : Rds T b (fun _ => True) n 0 f := by
  refine ⟨fun t ht => ⟨t, [], by rw [h t ht], trivial, ht, rfl, (fun x hx => nomatch hx), by rw [h t ht]; show b t = b t + 0; omega, by simp, Nat.le_refl _⟩, fun t ht s ws _ hs hto hw hk => ?_⟩
  cases ws with
  | nil =>
    have e : s = t := hto
    subst e
    rw [h s ht]
    show b s ≤ b s + 0
    omega
  | cons _ _ => simp at hk
/-! ### the walks of least_roads, as they lie -/
structure WsL (H : Hp) (xs : List V) (fs : List (Int × List Nat × Addr)) : Prop where
  len : xs.length = fs.length
  at' : ∀ (t : Nat) e, fs[t]? = some e → ∃ p, xs[t]? = some (V.ref p) ∧ H p = some (.tup [.int e.1, .ref e.2.2]) ∧ H e.2.2 = some (.lst ((nI e.2.1).map V.int))
theorem WsL.mono {H H' : Hp} {xs : List V} {fs : List (Int × List Nat × Addr)} (S : Same H H') (h : WsL H xs fs) : WsL H' xs fs := ⟨h.len, fun t e he => by
  obtain ⟨p, a1, a2, a3⟩ := h.at' t e he
  exact ⟨p, a1, S _ _ a2, S _ _ a3⟩⟩
theorem WsL.nil {H : Hp} : WsL H [] [] := ⟨rfl, fun t e he => by simp at he⟩
theorem get_snoc {α : Type} {xs : List α} {x y : α} {t : Nat} (h : (xs ++ [x])[t]? = some y) : xs[t]? = some y ∨ (t = xs.length ∧ y = x) := by
  by_cases ht : t < xs.length
  · rw [List.getElem?_append_left ht] at h
    exact .inl h
  · have ht' : xs.length ≤ t := Nat.not_lt.mp ht
    rw [List.getElem?_append_right ht'] at h
    have h0 : t - xs.length = 0 := by
      have := (List.getElem?_eq_some_iff.mp h).1
      simp at this; omega
    rw [h0] at h
    simp at h
    exact .inr ⟨by omega, h.symm⟩
theorem get_lt {α : Type} {xs : List α} {y : α} {t : Nat} (h : xs[t]? = some y) : t < xs.length := (List.getElem?_eq_some_iff.mp h).1
theorem getD_of {α : Type} {xs : List α} {x d : α} {t : Nat} (h : xs[t]? = some x) : xs.getD t d = x := by rw [List.getD_eq_getElem?_getD, h]; rfl
theorem get_ex {α : Type} {xs : List α} {t : Nat} (h : t < xs.length) : ∃ y, xs[t]? = some y := ⟨xs[t], by simp [h]⟩
theorem WsL.snoc {H H' : Hp} {xs : List V} {fs : List (Int × List Nat × Addr)} {p l : Addr} {i : Int} {ws : List Nat} (h : WsL H xs fs) (S : Same H H') (hp : H' p = some (.tup [.int i, .ref l])) (hl : H' l = some (.lst ((nI ws).map V.int))) : WsL H' (xs ++ [.ref p]) (fs ++ [(i, ws, l)]) := by
  refine ⟨by simp [h.len], fun t e he => ?_⟩
  rcases get_snoc he with z | ⟨z, rfl⟩
  · obtain ⟨q, a1, a2, a3⟩ := h.at' t e z
    exact ⟨q, by rw [List.getElem?_append_left (get_lt a1)]; exact a1, S _ _ a2, S _ _ a3⟩
  · refine ⟨p, ?_, hp, hl⟩
    rw [z, List.getElem?_append_right (by rw [h.len]; exact Nat.le_refl _), h.len]
    simp
/-- no two of the lists are one -/
def Dis (fs : List (Int × List Nat × Addr)) : Prop := ∀ (t u : Nat) e d, fs[t]? = some e → fs[u]? = some d → e.2.2 = d.2.2 → t = u
theorem Dis.nil : Dis [] := fun t u e d he => by simp at he
theorem Dis.snoc {H : Hp} {xs : List V} {fs : List (Int × List Nat × Addr)} {l : Addr} {i : Int} {ws : List Nat} (h : Dis fs) (w : WsL H xs fs) (hl : H l = none) : Dis (fs ++ [(i, ws, l)]) := by
  have old : ∀ (t : Nat) e, fs[t]? = some e → e.2.2 ≠ l := fun t e he z => by
    obtain ⟨p, _, _, a3⟩ := w.at' t e he
    rw [z, hl] at a3
    cases a3
  intro t u e d he hd ee
  rcases get_snoc he with z | ⟨z, rfl⟩ <;> rcases get_snoc hd with z' | ⟨z', rfl⟩
  · exact h t u e d z z' ee
  · exact absurd ee (old t e z)
  · exact absurd ee.symm (old u d z')
  · rw [z, z']
def EndOk (fs : List (Int × List Nat × Addr)) : Prop := ∀ (t : Nat) e, fs[t]? = some e → ∃ a ws, e.2.1 = a :: ws ∧ lastN a ws = t ∧ ws.length ≤ 100
/-- gs: each the least that comes of fs, lengthened by its own place -/
structure LongOk (T : Nat → Nat → Int) (H : Hp) (fs gs : List (Int × List Nat × Addr)) (n : Nat) : Prop where
  len : gs.length = n
  dis : Dis gs
  new : ∀ (t : Nat) e, gs[t]? = some e → H e.2.2 = none
  min : ∀ (t : Nat) e', gs[t]? = some e' → ∃ i e, fs[i]? = some e ∧ (∀ u d, fs[u]? = some d → e.1 + T i t ≤ d.1 + T u t) ∧ e'.1 = e.1 + T i t ∧ e'.2.1 = e.2.1 ++ [t]
def spLeastG (K : PySem.W.Frag) : Sp := fun vs H Q _ => ∃ (g r : Addr) (rows : List (List Int)) (xs : List V) (fs : List (Int × List Nat × Addr)) (n t : Nat), vs = [.ref g, .ref r, .int t] ∧ Gd K H g rows n ∧ H r = some (.lst xs) ∧ WsL H xs fs ∧ fs.length = n ∧ EndOk fs ∧ t < n ∧
  ∀ H' p l i e, Same H H' → H l = none → fs[i]? = some e → (∀ u d, fs[u]? = some d → e.1 + turnA rows i t ≤ d.1 + turnA rows u t) → H' p = some (.tup [.int (e.1 + turnA rows i t), .ref l]) → H' l = some (.lst ((nI (e.2.1 ++ [t])).map V.int)) → Q (.ref p) H'
def spLongG (K : PySem.W.Frag) : Sp := fun vs H Q _ => ∃ (g r : Addr) (rows : List (List Int)) (xs : List V) (fs : List (Int × List Nat × Addr)) (n : Nat), vs = [.ref g, .ref r] ∧ Gd K H g rows n ∧ H r = some (.lst xs) ∧ WsL H xs fs ∧ fs.length = n ∧ EndOk fs ∧
  ∀ H' r' ys gs, Same H H' → H' r' = some (.lst ys) → WsL H' ys gs → LongOk (turnA rows) H fs gs n → Q (.ref r') H'
def spLesser : Sp := fun vs H Q _ => ∃ (p q : Addr) (i j : Int) (l m : V), vs = [.ref p, .ref q] ∧ H p = some (.tup [.int i, l]) ∧ H q = some (.tup [.int j, m]) ∧ (j < i → Q (.ref q) H) ∧ (i ≤ j → Q (.ref p) H)
section
variable {P : Program} {w : World} {K : PySem.W.Frag} {mg : Str → Option Value} {base : Heap}
set_option maxHeartbeats 4000000
theorem g_least_to (B : Bt mg) (f_turn : FnAt P w K mg base "turn" 1 ["grid", "s", "t"] (spTurn K)) (f_total_of : FnAt P w K mg base "total_of" 1 ["walk"] spTotal) (D : DefIn K mg "least_to" s_least_to ["grid", "walks", "t"]) : FnAt P w K mg base "least_to" 3 ["grid", "walks", "t"] (spLeastG K) := by
  refine FnAt.of D sc_least_to (fun vs H Q E h => ?_) (fun f cdv A outer s H vs Q E hr h => ?_)
  · obtain ⟨g, r, rows, xs, fs, n, t, rfl, _⟩ := h
    rfl
  · obtain ⟨g, r, rows, xs, fs, n, t, rfl, G, hr1, W, hlen, hend, ht, q⟩ := h
    have n8 := G.n8
    have hxl := W.len
    refine ⟨_, (@pss_cons _ _ _ _ _ (ps_setC (i := 3) ["total", "words"] ["grid", "walks", "t", "longer"] sc_least_to.nd rfl rfl rfl (@pi_list _ _ _ _ (pv 1)) (fun _ => (pg_tup rfl (pgs_cons (pg_name (i := 0) (show (["total", "words", "grid", "walks", "t", "longer"] : List Str).Nodup by decide +kernel) rfl (Or.inl rfl)) (pgs_cons (pg_name (i := 1) (show (["total", "words", "grid", "walks", "t", "longer"] : List Str).Nodup by decide +kernel) rfl (Or.inl rfl)) (@pgs_nil _))))) (fun _ => (@pts_nil _)) (fun _ => (@pe_tup _ _ _ _ _ (pa_cons (@pe_op _ _ _ _ _ _ _ _ op_add (pv 0) (pe_callA f_turn (hr.mono (by decide)) rfl (pa_cons (pv 2) (pa_cons (@pe_ix _ _ _ _ _ _ _ ix_list (pv 1) (@pe_un _ _ _ _ _ _ un_neg (@pe_int _ _ _ _)) (fun _ _ => rfl)) (pa_cons (pv 4) (@pa_nil _)))))) (pa_cons (@pe_op _ _ _ _ _ _ _ _ op_cat (pv 1) (@pe_lst _ _ _ _ (pa_cons (pv 4) (@pa_nil _)))) (@pa_nil _))))) rfl (by decide +kernel) rfl rfl rfl) (@pss_one _ _ _ (@ps_ret _ _ _ _ (pe_minK f_total_of (hr.mono (by decide)) rfl rfl B.min rfl (pa_cons (pv 3) (@pa_nil _)))))), ?_⟩
    rw [show start ["grid", "walks", "t", "longer"] [V.ref g, V.ref r, V.int t] = [some (V.ref g), some (V.ref r), some (V.int t), none] from rfl]
    simp only [runs1, List.length_cons, List.length_nil, Nat.zero_add, List.replicate_succ, List.replicate_zero, List.drop_succ_cons, List.drop_zero, Int.zero_add, List.getElem?_cons_zero, List.getElem?_cons_succ, List.set_cons_zero, List.set_cons_succ, Option.some.injEq, V.int.injEq, V.ref.injEq, V.bl.injEq, V.ty.injEq, V.str.injEq, List.cons.injEq, List.append_nil, List.cons_append, List.nil_append, exists_eq, exists_eq', exists_eq_left, exists_eq_left', exists_and_left, exists_and_right, and_assoc, true_and, and_true, ↓reduceIte]
    refine ⟨⟨_, .of hr1⟩, fun d => ?_⟩
    refine comp_list (xs := xs) (fun i ys H2 => Same H H2 ∧ ∃ gs, WsL H2 ys gs ∧ gs.length = i ∧ ∀ (u : Nat) e', gs[u]? = some e' → H e'.2.2 = none ∧ ∃ e, fs[u]? = some e ∧ e'.1 = e.1 + turnA rows u t ∧ e'.2.1 = e.2.1 ++ [t]) ⟨Same.refl _, [], WsL.nil, rfl, fun u e he => by simp at he⟩ ?_ ?_ ?_
    · rintro i ys H2 hi ⟨S, gs, W2, hl, _⟩
      exact ⟨by rw [W2.len, hl]; exact Nat.le_trans hi (Nat.le_trans (show xs.length ≤ 8 by omega) (by decide)), S.seq (.of hr1)⟩
    · rintro i x ys H2 hx ⟨S, gs, W2, hl, hy⟩
      have hi : i < n := by have := get_lt hx; omega
      obtain ⟨e, he⟩ := get_ex (xs := fs) (t := i) (by omega)
      obtain ⟨p, a1, a2, a3⟩ := W.at' i e he
      rw [hx] at a1
      cases a1
      obtain ⟨s0, ws, e1, e2, e3⟩ := hend i e he
      rw [e1] at a3
      have hp2 := S _ _ a2
      have hl2 := S _ _ a3
      simp only [runs1, List.length_cons, List.length_nil, Nat.zero_add, List.replicate_succ, List.replicate_zero, List.drop_succ_cons, List.drop_zero, Int.zero_add, List.getElem?_cons_zero, List.getElem?_cons_succ, List.set_cons_zero, List.set_cons_succ, Option.some.injEq, V.int.injEq, V.ref.injEq, V.bl.injEq, V.ty.injEq, V.str.injEq, List.cons.injEq, List.append_nil, List.cons_append, List.nil_append, exists_eq, exists_eq', exists_eq_left, exists_eq_left', exists_and_left, exists_and_right, and_assoc, true_and, and_true, ↓reduceIte]
      refine ⟨_, .of hp2, rfl, ?_⟩
      simp only [runs1, List.length_cons, List.length_nil, Nat.zero_add, List.replicate_succ, List.replicate_zero, List.drop_succ_cons, List.drop_zero, Int.zero_add, List.getElem?_cons_zero, List.getElem?_cons_succ, List.set_cons_zero, List.set_cons_succ, Option.some.injEq, V.int.injEq, V.ref.injEq, V.bl.injEq, V.ty.injEq, V.str.injEq, List.cons.injEq, List.append_nil, List.cons_append, List.nil_append, exists_eq, exists_eq', exists_eq_left, exists_eq_left', exists_and_left, exists_and_right, and_assoc, true_and, and_true, ↓reduceIte]
      refine ⟨_, .of hl2, _, at_last s0 ws, ?_⟩
      rw [e2]
      refine spTurn_of (G.mono S) hi ht ?_
      simp only [runs1, List.length_cons, List.length_nil, Nat.zero_add, List.replicate_succ, List.replicate_zero, List.drop_succ_cons, List.drop_zero, Int.zero_add, List.getElem?_cons_zero, List.getElem?_cons_succ, List.set_cons_zero, List.set_cons_succ, Option.some.injEq, V.int.injEq, V.ref.injEq, V.bl.injEq, V.ty.injEq, V.str.injEq, List.cons.injEq, List.append_nil, List.cons_append, List.nil_append, exists_eq, exists_eq', exists_eq_left, exists_eq_left', exists_and_left, exists_and_right, and_assoc, true_and, and_true, ↓reduceIte]
      refine ⟨by show 1 ≤ sizeLine; decide, fun b hb => ?_⟩
      have S1 : Same H2 (upd H2 b (.lst [V.int t])) := Same.upd (Same.refl _) hb
      refine ⟨_, S1 _ _ hl2, _, upd_same, ?_, fun c hc => ⟨by show 2 ≤ sizeLine; decide, fun z hz => ?_⟩⟩
      · simp only [nI, List.length_map, List.length_cons, List.length_nil]
        exact Nat.le_trans (show ws.length + 1 + 1 ≤ 102 by omega) (by decide)
      · have S2 : Same (upd H2 b (.lst [V.int t])) (upd (upd H2 b (.lst [V.int t])) c (.lst ((nI (s0 :: ws)).map V.int ++ [V.int t]))) := Same.upd (Same.refl _) hc
        have hc2 : upd (upd H2 b (.lst [V.int t])) c (.lst ((nI (s0 :: ws)).map V.int ++ [V.int t])) c = some (.lst ((nI (e.2.1 ++ [t])).map V.int)) := by rw [upd_same, nI_snoc, e1]
        have hcH : H c = none := (S.trans S1).free hc
        have S3 := Same.upd (o := .tup [V.int (e.1 + turnA rows i t), V.ref c]) (Same.refl (upd (upd H2 b (.lst [V.int t])) c (.lst ((nI (s0 :: ws)).map V.int ++ [V.int t])))) hz
        have SS := S1.trans (S2.trans S3)
        refine ⟨S.trans SS, gs ++ [(e.1 + turnA rows i t, e.2.1 ++ [t], c)], W2.snoc SS upd_same (S3 _ _ hc2), by simp [hl], fun u e' hu => ?_⟩
        rcases get_snoc hu with y | ⟨y, rfl⟩
        · exact hy u e' y
        · rw [y, hl]
          exact ⟨hcH, e, he, rfl, rfl⟩
    · rintro ys H2 ⟨S, gs, W2, hl, hy⟩ lo hlo
      have S1 : Same H2 (upd H2 lo (.lst ys)) := Same.upd (Same.refl _) hlo
      have hyl := W2.len
      refine ⟨ys, .of upd_same, by omega, fun u => (gs.getD u (0, [], 0)).1, fun i x hx => ?_, fun i x hx hm => ?_⟩
      · obtain ⟨e', he'⟩ := get_ex (xs := gs) (t := i) (by have := get_lt hx; omega)
        obtain ⟨p, a1, a2, a3⟩ := W2.at' i e' he'
        rw [hx] at a1
        cases a1
        refine ⟨p, _, _, rfl, S1 _ _ a2, ?_, rfl⟩
        show V.int e'.1 = V.int (gs.getD i (0, [], 0)).1
        rw [getD_of he']
      · obtain ⟨e', he'⟩ := get_ex (xs := gs) (t := i) (by have := get_lt hx; omega)
        obtain ⟨p, a1, a2, a3⟩ := W2.at' i e' he'
        rw [hx] at a1
        cases a1
        obtain ⟨h0, e, b1, b2, b3⟩ := hy i e' he'
        rw [b2] at a2
        rw [b3] at a3
        refine q _ p e'.2.2 i e (S.trans S1) h0 b1 (fun u d hu => ?_) (S1 _ _ a2) (S1 _ _ a3)
        obtain ⟨d', hd'⟩ := get_ex (xs := gs) (t := u) (by have := get_lt hu; omega)
        obtain ⟨_, d2, c1, c2, c3⟩ := hy u d' hd'
        rw [hu] at c1
        cases c1
        have z := (hm u (by have := get_lt hu; omega)).1
        have z' : (gs.getD i (0, [], 0)).1 ≤ (gs.getD u (0, [], 0)).1 := z
        rw [getD_of he', getD_of hd'] at z'
        omega
theorem g_lengthened (B : Bt mg) (f_least_to : FnAt P w K mg base "least_to" 3 ["grid", "walks", "t"] (spLeastG K)) (D : DefIn K mg "lengthened" s_lengthened ["grid", "walks"]) : FnAt P w K mg base "lengthened" 4 ["grid", "walks"] (spLongG K) := by
  refine FnAt.of D sc_lengthened (fun vs H Q E h => ?_) (fun f cdv A outer s H vs Q E hr h => ?_)
  · obtain ⟨g, r, rows, xs, fs, n, rfl, _⟩ := h
    rfl
  · obtain ⟨g, r, rows, xs, fs, n, rfl, G, hr1, W, hlen, hend, q⟩ := h
    have n8 := G.n8
    refine ⟨_, (@pss_one _ _ _ (@ps_ret _ _ _ _ (pe_comp ["t"] ["grid", "walks"] rfl (pi_range1 rfl B.range (pa_cons (pe_callB call_len_seq rfl B.len bt_len (pa_cons (pv 0) (@pa_nil _))) (@pa_nil _))) (fun _ => (pg_name (i := 0) (show (["t", "grid", "walks"] : List Str).Nodup by decide +kernel) rfl (Or.inl rfl))) (fun _ => (@pts_nil _)) (fun _ => (pe_callA f_least_to (hr.mono (by decide)) rfl (pa_cons (pv 1) (pa_cons (pv 2) (pa_cons (pv 0) (@pa_nil _)))))) rfl (by decide +kernel) rfl rfl))), ?_⟩
    rw [show start ["grid", "walks"] [V.ref g, V.ref r] = [some (V.ref g), some (V.ref r)] from rfl]
    simp only [runs1, List.length_cons, List.length_nil, Nat.zero_add, List.replicate_succ, List.replicate_zero, List.drop_succ_cons, List.drop_zero, Int.zero_add, List.getElem?_cons_zero, List.getElem?_cons_succ, List.set_cons_zero, List.set_cons_succ, Option.some.injEq, V.int.injEq, V.ref.injEq, V.bl.injEq, V.ty.injEq, V.str.injEq, List.cons.injEq, List.append_nil, List.cons_append, List.nil_append, exists_eq, exists_eq', exists_eq_left, exists_eq_left', exists_and_left, exists_and_right, and_assoc, true_and, and_true, ↓reduceIte]
    obtain ⟨as, h1, h2⟩ := G.ex
    refine ⟨_, .inl h1.1, ?_⟩
    rw [List.length_map, h2]
    refine ⟨by omega, by omega, fun d => ?_⟩
    rw [Int.toNat_natCast]
    refine comp_range (fun i ys H2 => Same H H2 ∧ ∃ gs, WsL H2 ys gs ∧ LongOk (turnA rows) H fs gs i) ⟨Same.refl _, [], WsL.nil, rfl, Dis.nil, fun t e he => by simp at he, fun t e he => by simp at he⟩ ?_ ?_ ?_
    · rintro i ys H' hi ⟨S, gs, W2, L⟩
      rw [W2.len, L.len]
      exact Nat.le_trans hi (Nat.le_trans n8 (by decide))
    · rintro i ys H' hi ⟨S, gs, W2, L⟩
      simp only [runs1, List.length_cons, List.length_nil, Nat.zero_add, List.replicate_succ, List.replicate_zero, List.drop_succ_cons, List.drop_zero, Int.zero_add, List.getElem?_cons_zero, List.getElem?_cons_succ, List.set_cons_zero, List.set_cons_succ, Option.some.injEq, V.int.injEq, V.ref.injEq, V.bl.injEq, V.ty.injEq, V.str.injEq, List.cons.injEq, List.append_nil, List.cons_append, List.nil_append, exists_eq, exists_eq', exists_eq_left, exists_eq_left', exists_and_left, exists_and_right, and_assoc, true_and, and_true, ↓reduceIte]
      refine ⟨g, r, rows, xs, fs, n, i, rfl, G.mono S, S _ _ hr1, W.mono S, hlen, hend, hi, fun H2 p l j e S2 hl hj hm hp hl2 => ?_⟩
      refine ⟨S.trans S2, gs ++ [(e.1 + turnA rows j i, e.2.1 ++ [i], l)], W2.snoc S2 hp hl2, by simp [L.len], L.dis.snoc W2 hl, fun t e' he' => ?_, fun t e' he' => ?_⟩
      · rcases get_snoc he' with y | ⟨y, rfl⟩
        · exact L.new t e' y
        · exact S.free hl
      · rcases get_snoc he' with y | ⟨y, rfl⟩
        · exact L.min t e' y
        · rw [y, L.len]
          exact ⟨j, e, hj, hm, rfl, rfl⟩
    · rintro ys H' ⟨S, gs, W2, L⟩ l hl
      have S1 : Same H' (upd H' l (.lst ys)) := Same.upd (Same.refl _) hl
      exact q _ l ys gs (S.trans S1) upd_same (W2.mono S1) L
theorem f_lesser (f_total_of : FnAt P w K mg base "total_of" 1 ["walk"] spTotal) (D : DefIn K mg "lesser" s_lesser ["walk", "longer"]) : FnAt P w K mg base "lesser" 2 ["walk", "longer"] spLesser := by
  refine FnAt.of D sc_lesser (fun vs H Q E h => ?_) (fun f cdv A outer s H vs Q E hr h => ?_)
  · obtain ⟨p, q, i, j, l, m, rfl, _⟩ := h
    rfl
  · obtain ⟨p, q, i, j, l, m, rfl, hp, hq, q1, q2⟩ := h
    refine ⟨_, (@pss_one _ _ _ (@ps_ret _ _ _ _ (@pe_ifExp _ _ _ _ _ _ _ _ (@pt_cmpR _ _ _ _ _ _ _ _ op_lt (pe_callA f_total_of (hr.mono (by decide)) rfl (pa_cons (pv 1) (@pa_nil _))) (pe_callA f_total_of (hr.mono (by decide)) rfl (pa_cons (pv 0) (@pa_nil _))) (nomark _)) (pv 1) (pv 0)))), ?_⟩
    rw [show start ["walk", "longer"] [V.ref p, V.ref q] = [some (V.ref p), some (V.ref q)] from rfl]
    simp only [runs1, List.length_cons, List.length_nil, Nat.zero_add, List.replicate_succ, List.replicate_zero, List.drop_succ_cons, List.drop_zero, Int.zero_add, List.getElem?_cons_zero, List.getElem?_cons_succ, List.set_cons_zero, List.set_cons_succ, Option.some.injEq, V.int.injEq, V.ref.injEq, V.bl.injEq, V.ty.injEq, V.str.injEq, List.cons.injEq, List.append_nil, List.cons_append, List.nil_append, exists_eq, exists_eq', exists_eq_left, exists_eq_left', exists_and_left, exists_and_right, and_assoc, true_and, and_true, ↓reduceIte]
    refine ⟨q, j, m, rfl, hq, ?_⟩
    simp only [runs1, List.length_cons, List.length_nil, Nat.zero_add, List.replicate_succ, List.replicate_zero, List.drop_succ_cons, List.drop_zero, Int.zero_add, List.getElem?_cons_zero, List.getElem?_cons_succ, List.set_cons_zero, List.set_cons_succ, Option.some.injEq, V.int.injEq, V.ref.injEq, V.bl.injEq, V.ty.injEq, V.str.injEq, List.cons.injEq, List.append_nil, List.cons_append, List.nil_append, exists_eq, exists_eq', exists_eq_left, exists_eq_left', exists_and_left, exists_and_right, and_assoc, true_and, and_true, ↓reduceIte]
    refine ⟨p, i, l, rfl, hp, ?_⟩
    simp only [runs1, List.length_cons, List.length_nil, Nat.zero_add, List.replicate_succ, List.replicate_zero, List.drop_succ_cons, List.drop_zero, Int.zero_add, List.getElem?_cons_zero, List.getElem?_cons_succ, List.set_cons_zero, List.set_cons_succ, Option.some.injEq, V.int.injEq, V.ref.injEq, V.bl.injEq, V.ty.injEq, V.str.injEq, List.cons.injEq, List.append_nil, List.cons_append, List.nil_append, exists_eq, exists_eq', exists_eq_left, exists_eq_left', exists_and_left, exists_and_right, and_assoc, true_and, and_true, ↓reduceIte]
    exact ite2 (fun h => q1 (of_decide_eq_true h)) fun h => q2 (Int.not_lt.mp fun z => h (decide_eq_true z))
end

def fOf (fs : List (Int × List Nat × Addr)) (t : Nat) : Int × List Nat := ((fs.getD t (0, [], 0)).1, (fs.getD t (0, [], 0)).2.1)
theorem fOf_at {fs : List (Int × List Nat × Addr)} {t : Nat} {e : Int × List Nat × Addr} (h : fs[t]? = some e) : fOf fs t = (e.1, e.2.1) := by unfold fOf; rw [getD_of h]
theorem Rds.endOk {T : Nat → Nat → Int} {b : Nat → Int} {S : Nat → Prop} {n k : Nat} {fs : List (Int × List Nat × Addr)} (R : Rds T b S n k (fOf fs)) (hl : fs.length = n) (hk : k ≤ 100) : EndOk fs := fun t e he => by
  obtain ⟨s, ws, e1, hS, hs, hto, hw, hv, hd, hk2⟩ := (R.rd t (by have := get_lt he; omega)).ex
  rw [fOf_at he] at e1
  exact ⟨s, ws, e1, by rw [← lst_N]; exact hto, by omega⟩
/-- what is told: payments and roads -/
structure Told (T : Nat → Nat → Int) (b : Nat → Int) (S : Nat → Prop) (n k : Nat) (fs gs : List (Int × List Nat × Addr)) : Prop where
  len : gs.length = n
  dis : Dis gs
  rds : Rds T b S n k (fOf gs)
  le : ∀ t, t < n → (fOf gs t).1 ≤ (fOf fs t).1
def spRoads (K : PySem.W.Frag) : Sp := fun vs H Q _ => ∃ (g r : Addr) (rows : List (List Int)) (xs : List V) (fs : List (Int × List Nat × Addr)) (n k : Nat) (b : Nat → Int) (S : Nat → Prop), vs = [.ref g, .ref r] ∧ Gd K H g rows n ∧ 0 < n ∧ (∀ k, NoNeg (turnA rows) n k) ∧ H r = some (.lst xs) ∧ WsL H xs fs ∧
  fs.length = n ∧ Dis fs ∧ Rds (turnA rows) b S n k (fOf fs) ∧ k ≤ 1 ∧ ∀ H' r' ys gs, Same H H' → H' r' = some (.lst ys) → WsL H' ys gs → Told (turnA rows) b S n (k + (n - 1)) fs gs → Q (.ref r') H'
def PvMix (H3 : Hp) (gs hs : List (Int × List Nat × Addr)) (i : Nat) (vs : List V) (H4 : Hp) : Prop := Same H3 H4 ∧ ∃ ks, WsL H4 vs ks ∧ ks.length = i ∧ ∀ (t : Nat) e, ks[t]? = some e → ∃ d e', gs[t]? = some d ∧ hs[t]? = some e' ∧ ((e'.1 < d.1 ∧ e = e') ∨ (d.1 ≤ e'.1 ∧ e = d))
def PvRoads (H : Hp) (g : Addr) (T : Nat → Nat → Int) (b : Nat → Int) (S : Nat → Prop) (n k : Nat) (fs : List (Int × List Nat × Addr)) (i : Nat) (σ : L2.St) (H2 : Hp) : Prop := Same H H2 ∧ ∃ r' ys gs v2, σ = [some (.ref g), some (.ref r'), v2] ∧ H2 r' = some (.lst ys) ∧ WsL H2 ys gs ∧ Told T b S n (k + i) fs gs
section
variable {P : Program} {w : World} {K : PySem.W.Frag} {mg : Str → Option Value} {base : Heap}
set_option maxHeartbeats 4000000
theorem f_least_roads (B : Bt mg) (f_lengthened : FnAt P w K mg base "lengthened" 4 ["grid", "walks"] (spLongG K)) (f_lesser : FnAt P w K mg base "lesser" 2 ["walk", "longer"] spLesser) (D : DefIn K mg "least_roads" s_least_roads ["grid", "walks"]) : FnAt P w K mg base "least_roads" 5 ["grid", "walks"] (spRoads K) := by
  refine FnAt.of D sc_least_roads (fun vs H Q E h => ?_) (fun f cdv A outer s H vs Q E hr h => ?_)
  · obtain ⟨g, r, rows, xs, fs, n, k, b, S, rfl, _⟩ := h
    rfl
  · obtain ⟨g, r, rows, xs, fs, n, k, b, Sd, rfl, G, hn, no, hr1, W, hlen, hdis, R, hk, q⟩ := h
    have n8 := G.n8
    refine ⟨_, (@pss_cons _ _ _ _ _ (ps_for PassesOwn.never rfl (pi_range2 rfl B.range (pa_cons (@pe_int _ _ _ _) (pa_cons (@pe_op _ _ _ _ _ _ _ _ op_add (pe_callB call_len_seq rfl B.len bt_len (pa_cons (pv 0) (@pa_nil _))) (@pe_int _ _ _ _)) (@pa_nil _)))) (pg_name (i := 2) sc_least_roads.nd rfl (Or.inl rfl)) (@pss_one _ _ _ (ps_setC (i := 1) ["walk", "longer"] ["grid", "walks", "size"] sc_least_roads.nd rfl rfl rfl (pi_zip rfl B.zip (pa_cons (pv 1) (pa_cons (pe_callA f_lengthened (hr.mono (by decide)) rfl (pa_cons (pv 0) (pa_cons (pv 1) (@pa_nil _)))) (@pa_nil _)))) (fun _ => (pg_tup rfl (pgs_cons (pg_name (i := 0) (show (["walk", "longer", "grid", "walks", "size"] : List Str).Nodup by decide +kernel) rfl (Or.inl rfl)) (pgs_cons (pg_name (i := 1) (show (["walk", "longer", "grid", "walks", "size"] : List Str).Nodup by decide +kernel) rfl (Or.inl rfl)) (@pgs_nil _))))) (fun _ => (@pts_nil _)) (fun _ => (pe_callA f_lesser (hr.mono (by decide)) rfl (pa_cons (pv 0) (pa_cons (pv 1) (@pa_nil _))))) rfl (by decide +kernel) rfl rfl rfl))) (@pss_one _ _ _ (@ps_ret _ _ _ _ (pv 1)))), ?_⟩
    rw [show start ["grid", "walks", "size"] [V.ref g, V.ref r] = [some (V.ref g), some (V.ref r), none] from rfl]
    simp only [runs1, List.length_cons, List.length_nil, Nat.zero_add, List.replicate_succ, List.replicate_zero, List.drop_succ_cons, List.drop_zero, Int.zero_add, List.getElem?_cons_zero, List.getElem?_cons_succ, List.set_cons_zero, List.set_cons_succ, Option.some.injEq, V.int.injEq, V.ref.injEq, V.bl.injEq, V.ty.injEq, V.str.injEq, List.cons.injEq, List.append_nil, List.cons_append, List.nil_append, exists_eq, exists_eq', exists_eq_left, exists_eq_left', exists_and_left, exists_and_right, and_assoc, true_and, and_true, ↓reduceIte]
    obtain ⟨as, h1, h2⟩ := G.ex
    refine ⟨_, .inl h1.1, ?_⟩
    rw [List.length_map, h2]
    refine ⟨by omega, by omega, by omega, by omega, ?_⟩
    rw [show ((n : Int) + 1 - 2).toNat = n - 1 by omega]
    refine for_range (PvRoads H g (turnA rows) b Sd n k fs) ⟨Same.refl _, r, xs, fs, _, rfl, hr1, W, hlen, hdis, R, fun t ht => Int.le_refl _⟩ ?_ ?_
    · rintro i σ H2 hi ⟨S2, r', ys, gs, v2, rfl, hr2, W2, Td⟩
      have lg := Td.len
      have ly := W2.len
      have le := Td.le
      simp only [runs1, List.length_cons, List.length_nil, Nat.zero_add, List.replicate_succ, List.replicate_zero, List.drop_succ_cons, List.drop_zero, Int.zero_add, List.getElem?_cons_zero, List.getElem?_cons_succ, List.set_cons_zero, List.set_cons_succ, Option.some.injEq, V.int.injEq, V.ref.injEq, V.bl.injEq, V.ty.injEq, V.str.injEq, List.cons.injEq, List.append_nil, List.cons_append, List.nil_append, exists_eq, exists_eq', exists_eq_left, exists_eq_left', exists_and_left, exists_and_right, and_assoc, true_and, and_true, ↓reduceIte]
      refine ⟨g, r', rows, ys, gs, n, rfl, G.mono S2, hr2, W2, lg, Td.rds.endOk lg (by omega), fun H3 r3 zs hs S3 hr3 W3 L => ?_⟩
      have lh := L.len
      have lz := W3.len
      simp only [runs1, List.length_cons, List.length_nil, Nat.zero_add, List.replicate_succ, List.replicate_zero, List.drop_succ_cons, List.drop_zero, Int.zero_add, List.getElem?_cons_zero, List.getElem?_cons_succ, List.set_cons_zero, List.set_cons_succ, Option.some.injEq, V.int.injEq, V.ref.injEq, V.bl.injEq, V.ty.injEq, V.str.injEq, List.cons.injEq, List.append_nil, List.cons_append, List.nil_append, exists_eq, exists_eq', exists_eq_left, exists_eq_left', exists_and_left, exists_and_right, and_assoc, true_and, and_true, ↓reduceIte]
      refine ⟨⟨_, .of (S3 _ _ hr2)⟩, ⟨_, .of hr3⟩, fun d => ?_⟩
      refine comp_zip (xs := ys) (zs := zs) (PvMix H3 gs hs) ⟨Same.refl _, [], WsL.nil, rfl, fun t e he => by simp at he⟩ ?_ ?_ ?_
      · rintro j vs H4 hj ⟨S4, ks, W4, lk, _⟩
        refine ⟨?_, (S3.trans S4).seq (.of hr2), S4.seq (.of hr3)⟩
        rw [W4.len, lk]
        exact Nat.le_trans hj (Nat.le_trans (Nat.min_le_left _ _) (Nat.le_trans (show ys.length ≤ 8 by omega) (by decide)))
      · rintro j x z vs H4 U hx hz hU ⟨S4, ks, W4, lk, hks⟩
        obtain ⟨d1, hd1⟩ := get_ex (xs := gs) (t := j) (by have := get_lt hx; omega)
        obtain ⟨e1, he1⟩ := get_ex (xs := hs) (t := j) (by have := get_lt hz; omega)
        obtain ⟨p, a1, a2, a3⟩ := W2.at' j d1 hd1
        obtain ⟨p', b1, b2, b3⟩ := W3.at' j e1 he1
        rw [hx] at a1
        cases a1
        rw [hz] at b1
        cases b1
        have SU : Same H4 (upd H4 U (.tup [V.ref p, V.ref p'])) := Same.upd (Same.refl _) hU
        simp only [runs1, List.length_cons, List.length_nil, Nat.zero_add, List.replicate_succ, List.replicate_zero, List.drop_succ_cons, List.drop_zero, Int.zero_add, List.getElem?_cons_zero, List.getElem?_cons_succ, List.set_cons_zero, List.set_cons_succ, Option.some.injEq, V.int.injEq, V.ref.injEq, V.bl.injEq, V.ty.injEq, V.str.injEq, List.cons.injEq, List.append_nil, List.cons_append, List.nil_append, exists_eq, exists_eq', exists_eq_left, exists_eq_left', exists_and_left, exists_and_right, and_assoc, true_and, and_true, ↓reduceIte]
        refine ⟨_, .of upd_same, rfl, ?_⟩
        simp only [runs1, List.length_cons, List.length_nil, Nat.zero_add, List.replicate_succ, List.replicate_zero, List.drop_succ_cons, List.drop_zero, Int.zero_add, List.getElem?_cons_zero, List.getElem?_cons_succ, List.set_cons_zero, List.set_cons_succ, Option.some.injEq, V.int.injEq, V.ref.injEq, V.bl.injEq, V.ty.injEq, V.str.injEq, List.cons.injEq, List.append_nil, List.cons_append, List.nil_append, exists_eq, exists_eq', exists_eq_left, exists_eq_left', exists_and_left, exists_and_right, and_assoc, true_and, and_true, ↓reduceIte]
        generalize upd H4 U (.tup [V.ref p, V.ref p']) = H5 at *
        have S35 := S4.trans SU
        have S25 := S3.trans S35
        refine ⟨p, p', _, _, _, _, rfl, S25 _ _ a2, S35 _ _ b2, fun hlt => ?_, fun hle => ?_⟩
        · refine ⟨S35, ks ++ [e1], W4.snoc SU (S35 _ _ b2) (S35 _ _ b3), by simp [lk], fun t e he => ?_⟩
          rcases get_snoc he with y | ⟨y, rfl⟩
          · exact hks t e y
          · rw [y, lk]
            exact ⟨d1, _, hd1, he1, .inl ⟨hlt, rfl⟩⟩
        · refine ⟨S35, ks ++ [d1], W4.snoc SU (S25 _ _ a2) (S25 _ _ a3), by simp [lk], fun t e he => ?_⟩
          rcases get_snoc he with y | ⟨y, rfl⟩
          · exact hks t e y
          · rw [y, lk]
            exact ⟨_, e1, hd1, he1, .inr ⟨hle, rfl⟩⟩
      · rintro vs H4 ⟨S4, ks, W4, lk, hks⟩ l hl
        have lk' : ks.length = n := by rw [lk]; omega
        have S5 : Same H4 (upd H4 l (.lst vs)) := Same.upd (Same.refl _) hl
        refine ⟨S2.trans (S3.trans (S4.trans S5)), l, vs, ks, _, rfl, upd_same, W4.mono S5, lk', ?_, ?_, fun t ht => ?_⟩
        · intro t u e d he hd ee
          obtain ⟨d1, e1, c1, c2, c3⟩ := hks t e he
          obtain ⟨d2, e2, c4, c5, c6⟩ := hks u d hd
          rcases c3 with ⟨_, rfl⟩ | ⟨_, rfl⟩ <;> rcases c6 with ⟨_, rfl⟩ | ⟨_, rfl⟩
          · exact L.dis t u _ _ c2 c5 ee
          · obtain ⟨_, _, _, x3⟩ := W2.at' u _ c4
            rw [← ee, L.new t _ c2] at x3
            cases x3
          · obtain ⟨_, _, _, x3⟩ := W2.at' t _ c1
            rw [ee, L.new u _ c5] at x3
            cases x3
          · exact Td.dis t u _ _ c1 c4 ee
        · refine Td.rds.step no fun t ht => ?_
          obtain ⟨e, he⟩ := get_ex (xs := ks) (t := t) (by omega)
          obtain ⟨d1, e1, c1, c2, c3⟩ := hks t e he
          obtain ⟨i2, e2, x1, x2, x3, x4⟩ := L.min t e1 c2
          refine ⟨i2, by have := get_lt x1; omega, fun u hu => ?_, ?_⟩
          · obtain ⟨d, hd⟩ := get_ex (xs := gs) (t := u) (by omega)
            rw [fOf_at x1, fOf_at hd]
            exact x2 u d hd
          · rw [fOf_at x1, fOf_at c1, fOf_at he]
            rcases c3 with ⟨y, rfl⟩ | ⟨y, rfl⟩
            · left
              rw [x3] at y
              exact ⟨y, by rw [x3, x4]⟩
            · right
              rw [x3] at y
              exact ⟨y, rfl⟩
        · obtain ⟨e, he⟩ := get_ex (xs := ks) (t := t) (by omega)
          obtain ⟨d1, e1, c1, c2, c3⟩ := hks t e he
          have z := le t ht
          rw [fOf_at c1] at z
          rw [fOf_at he]
          have z' : d1.1 ≤ (fOf fs t).1 := z
          show e.1 ≤ _
          rcases c3 with ⟨y, rfl⟩ | ⟨y, rfl⟩
          · omega
          · exact z'
    · rintro σ H2 ⟨S2, r', ys, gs, v2, rfl, hr2, W2, Td⟩
      simp only [runs1, List.length_cons, List.length_nil, Nat.zero_add, List.replicate_succ, List.replicate_zero, List.drop_succ_cons, List.drop_zero, Int.zero_add, List.getElem?_cons_zero, List.getElem?_cons_succ, List.set_cons_zero, List.set_cons_succ, Option.some.injEq, V.int.injEq, V.ref.injEq, V.bl.injEq, V.ty.injEq, V.str.injEq, List.cons.injEq, List.append_nil, List.cons_append, List.nil_append, exists_eq, exists_eq', exists_eq_left, exists_eq_left', exists_and_left, exists_and_right, and_assoc, true_and, and_true, ↓reduceIte]
      exact q H2 r' ys gs S2 hr2 W2 Td
end

structure ToldAt (H : Hp) (v : V) (gs : List (Int × List Nat × Addr)) : Prop where
  ex : ∃ tp pl rl, v = V.ref tp ∧ H tp = some (.tup [.ref pl, .ref rl]) ∧ H pl = some (.lst ((gs.map fun e => e.1).map V.int)) ∧ H rl = some (.lst (gs.map fun e => V.ref e.2.2))
  road : ∀ e ∈ gs, H e.2.2 = some (.lst ((nI e.2.1).map V.int))
theorem ToldAt.mono {H H' : Hp} {v : V} {gs : List (Int × List Nat × Addr)} (S : Same H H') (h : ToldAt H v gs) : ToldAt H' v gs := by
  obtain ⟨tp, pl, rl, e, h1, h2, h3⟩ := h.ex
  exact ⟨⟨tp, pl, rl, e, S _ _ h1, S _ _ h2, S _ _ h3⟩, fun e he => S _ _ (h.road e he)⟩
def spRefuse (a : Ad) (K : PySem.W.Frag) : Sp := fun vs H Q E => ∃ (g : Addr) (rows : List (List Int)) (n : Nat), vs = [.ref g] ∧ Gd K H g rows n ∧ 0 < n ∧ (∀ H', Same H H' → (∀ j, j ≤ n → NoNeg (turnA rows) n j) → Q .non H') ∧
  ∀ H' c, Same H H' → RingA (turnA rows) n c → E (.ref a.NoPays) none H'
def PvTot (H3 : Hp) (gs : List (Int × List Nat × Addr)) (i : Nat) (ys : List V) (H4 : Hp) : Prop := H4 = H3 ∧ ys = ((gs.take i).map fun e => e.1).map V.int
def PvWds (H3 : Hp) (gs : List (Int × List Nat × Addr)) (i : Nat) (ys : List V) (H4 : Hp) : Prop := H4 = H3 ∧ ys = (gs.take i).map fun e => V.ref e.2.2
def PvOne (H : Hp) (b : Nat → Int) (i : Nat) (ys : List V) (H4 : Hp) : Prop := Same H H4 ∧ ∃ gs, WsL H4 ys gs ∧ gs.length = i ∧ Dis gs ∧ ∀ t, t < i → fOf gs t = (b t, [t])
section
variable {P : Program} {w : World} {K : PySem.W.Frag} {mg : Str → Option Value} {base : Heap} {a : Ad}
set_option maxHeartbeats 4000000
theorem f_refuse_ring (B : Bt mg) (C : Ct K mg a) (f_ring : FnAt P w K mg base "ring" 5 ["grid"] (spRing K)) (D : DefIn K mg "refuse_ring" s_refuse_ring ["grid"]) : FnAtX P w K mg base "refuse_ring" 6 ["grid"] (spRefuse a K) := by
  refine FnAtX.of D sc_refuse_ring (fun vs H Q E h => ?_) (fun f cdv A outer s H vs Q E hr h => ?_)
  · obtain ⟨g, rows, n, rfl, _⟩ := h
    rfl
  · obtain ⟨g, rows, n, rfl, G, hn, q0, q1⟩ := h
    refine ⟨_, (@pss_one _ _ _ (@ps_if _ _ _ _ _ _ _ _ (@pt_cmpR _ _ _ _ _ _ _ _ op_notN (pe_callA f_ring (hr.mono (by decide)) rfl (pa_cons (pv 0) (@pa_nil _))) (@pe_non _ _ _) (nomark _)) (@pss_one _ _ _ (ps_raise rfl C.q_NoPays.toErr rfl C.m_NoPays (raises_body rfl) (pa_cons (@pe_str _ _ _ _) (@pa_nil _)))) (@pss_nil _))), ?_⟩
    rw [show start ["grid"] [V.ref g] = [some (V.ref g)] from rfl]
    simp only [runs1, List.length_cons, List.length_nil, Nat.zero_add, List.replicate_succ, List.replicate_zero, List.drop_succ_cons, List.drop_zero, Int.zero_add, List.getElem?_cons_zero, List.getElem?_cons_succ, List.set_cons_zero, List.set_cons_succ, Option.some.injEq, V.int.injEq, V.ref.injEq, V.bl.injEq, V.ty.injEq, V.str.injEq, List.cons.injEq, List.append_nil, List.cons_append, List.nil_append, exists_eq, exists_eq', exists_eq_left, exists_eq_left', exists_and_left, exists_and_right, and_assoc, true_and, and_true, ↓reduceIte]
    refine ⟨g, rows, n, rfl, G, hn, fun H1 S1 no => ?_, fun H1 l c S1 hl R => ?_⟩
    · simp only [runs1, List.length_cons, List.length_nil, Nat.zero_add, List.replicate_succ, List.replicate_zero, List.drop_succ_cons, List.drop_zero, Int.zero_add, List.getElem?_cons_zero, List.getElem?_cons_succ, List.set_cons_zero, List.set_cons_succ, Option.some.injEq, V.int.injEq, V.ref.injEq, V.bl.injEq, V.ty.injEq, V.str.injEq, List.cons.injEq, List.append_nil, List.cons_append, List.nil_append, exists_eq, exists_eq', exists_eq_left, exists_eq_left', exists_and_left, exists_and_right, and_assoc, true_and, and_true, ↓reduceIte]
      exact ite2 (fun z => absurd z (by simp)) fun _ => q0 H1 S1 no
    · simp only [runs1, List.length_cons, List.length_nil, Nat.zero_add, List.replicate_succ, List.replicate_zero, List.drop_succ_cons, List.drop_zero, Int.zero_add, List.getElem?_cons_zero, List.getElem?_cons_succ, List.set_cons_zero, List.set_cons_succ, Option.some.injEq, V.int.injEq, V.ref.injEq, V.bl.injEq, V.ty.injEq, V.str.injEq, List.cons.injEq, List.append_nil, List.cons_append, List.nil_append, exists_eq, exists_eq', exists_eq_left, exists_eq_left', exists_and_left, exists_and_right, and_assoc, true_and, and_true, ↓reduceIte]
      exact ite2 (fun _ => ⟨by decide, q1 H1 c S1 R⟩) fun z => (z (by simp)).elim
end

structure Great (rows : List (List Int)) (n : Nat) (gs : List (Int × List Nat × Addr)) : Prop where
  len : gs.length = n
  dis : Dis gs
  no : ∀ k, NoNeg (turnA rows) n k
  rds : Rds (turnA rows) (fun t => cellA rows t t) (fun _ => True) n (n - 1) (fOf gs)
  le : ∀ t, t < n → (fOf gs t).1 ≤ cellA rows t t
def spGreat (a : Ad) (K : PySem.W.Frag) : Sp := fun vs H Q E => ∃ (g : Addr) (rows : List (List Int)) (n : Nat), vs = [.ref g] ∧ Gd K H g rows n ∧ 0 < n ∧ (∀ H' v gs, Same H H' → ToldAt H' v gs → Great rows n gs → Q v H') ∧
  ∀ H' c, Same H H' → RingA (turnA rows) n c → E (.ref a.NoPays) none H'
section
variable {P : Program} {w : World} {K : PySem.W.Frag} {mg : Str → Option Value} {base : Heap} {a : Ad}
set_option maxHeartbeats 4000000
theorem f_greatest (B : Bt mg) (C : Ct K mg a) (f_refuse_ring : FnAtX P w K mg base "refuse_ring" 6 ["grid"] (spRefuse a K)) (f_least_roads : FnAt P w K mg base "least_roads" 5 ["grid", "walks"] (spRoads K)) (f_total_of : FnAt P w K mg base "total_of" 1 ["walk"] spTotal) (f_words_of : FnAt P w K mg base "words_of" 1 ["walk"] spWordsOf)
    (D : DefIn K mg "greatest" s_greatest ["grid"]) : FnAtX P w K mg base "greatest" 7 ["grid"] (spGreat a K) := by
  refine FnAtX.of D sc_greatest (fun vs H Q E h => ?_) (fun f cdv A outer s H vs Q E hr h => ?_)
  · obtain ⟨g, rows, n, rfl, _⟩ := h
    rfl
  · obtain ⟨g, rows, n, rfl, G, hn, q0, q1⟩ := h
    have n8 := G.n8
    refine ⟨_, (@pss_cons _ _ _ _ _ (ps_expr (pe_callX f_refuse_ring (hr.mono (by decide)) (takes_body rfl) rfl (pa_cons (pv 0) (@pa_nil _)))) (@pss_cons _ _ _ _ _ (PS.nox (ps_set (i := 1) sc_greatest.nd rfl (Or.inl rfl) (pe_callA f_least_roads (hr.mono (by decide)) rfl (pa_cons (pv 0) (pa_cons (pe_comp ["t"] ["grid", "walks"] rfl (pi_range1 rfl B.range (pa_cons (pe_callB call_len_seq rfl B.len bt_len (pa_cons (pv 0) (@pa_nil _))) (@pa_nil _))) (fun _ => (pg_name (i := 0) (show (["t", "grid", "walks"] : List Str).Nodup by decide +kernel) rfl (Or.inl rfl))) (fun _ => (@pts_nil _)) (fun _ => (@pe_tup _ _ _ _ _ (@pa_cons _ _ _ _ _ (@pe_ix _ _ _ _ _ _ _ ix_list (@pe_ix _ _ _ _ _ _ _ ix_list (pv 1) (pv 0) (fun _ _ => rfl)) (pv 0) (fun _ _ => rfl)) (@pa_cons _ _ _ _ _ (@pe_lst _ _ _ _ (@pa_cons _ _ _ _ _ (pv 0) (@pa_nil _) (star_of nofun))) (@pa_nil _) (star_of nofun)) (star_of nofun)))) rfl (by decide +kernel) rfl rfl) (@pa_nil _)))))) (@pss_one _ _ _ (PS.nox (@ps_ret _ _ _ _ (@pe_tup _ _ _ _ _ (pa_cons (pe_comp ["walk"] ["grid", "walks"] rfl (@pi_list _ _ _ _ (pv 1)) (fun _ => (pg_name (i := 0) (show (["walk", "grid", "walks"] : List Str).Nodup by decide +kernel) rfl (Or.inl rfl))) (fun _ => (@pts_nil _)) (fun _ => (pe_callA f_total_of (hr.mono (by decide)) rfl (pa_cons (pv 0) (@pa_nil _)))) rfl (by decide +kernel) rfl rfl) (pa_cons (pe_comp ["walk"] ["grid", "walks"] rfl (@pi_list _ _ _ _ (pv 1)) (fun _ => (pg_name (i := 0) (show (["walk", "grid", "walks"] : List Str).Nodup by decide +kernel) rfl (Or.inl rfl))) (fun _ => (@pts_nil _)) (fun _ => (pe_callA f_words_of (hr.mono (by decide)) rfl (pa_cons (pv 0) (@pa_nil _)))) rfl (by decide +kernel) rfl rfl) (@pa_nil _))))))))), ?_⟩
    rw [show start ["grid", "walks"] [V.ref g] = [some (V.ref g), none] from rfl]
    simp only [runs1, List.length_cons, List.length_nil, Nat.zero_add, List.replicate_succ, List.replicate_zero, List.drop_succ_cons, List.drop_zero, Int.zero_add, List.getElem?_cons_zero, List.getElem?_cons_succ, List.set_cons_zero, List.set_cons_succ, Option.some.injEq, V.int.injEq, V.ref.injEq, V.bl.injEq, V.ty.injEq, V.str.injEq, List.cons.injEq, List.append_nil, List.cons_append, List.nil_append, exists_eq, exists_eq', exists_eq_left, exists_eq_left', exists_and_left, exists_and_right, and_assoc, true_and, and_true, ↓reduceIte]
    refine ⟨g, rows, n, rfl, G, hn, fun H1 S1 no => ?_, fun H1 c S1 R => q1 H1 c S1 R⟩
    have no' := NoNeg.all no
    simp only [runs1, List.length_cons, List.length_nil, Nat.zero_add, List.replicate_succ, List.replicate_zero, List.drop_succ_cons, List.drop_zero, Int.zero_add, List.getElem?_cons_zero, List.getElem?_cons_succ, List.set_cons_zero, List.set_cons_succ, Option.some.injEq, V.int.injEq, V.ref.injEq, V.bl.injEq, V.ty.injEq, V.str.injEq, List.cons.injEq, List.append_nil, List.cons_append, List.nil_append, exists_eq, exists_eq', exists_eq_left, exists_eq_left', exists_and_left, exists_and_right, and_assoc, true_and, and_true, ↓reduceIte]
    obtain ⟨as, h1, h2⟩ := (G.mono S1).ex
    refine ⟨_, .inl h1.1, ?_⟩
    rw [List.length_map, h2]
    refine ⟨by omega, by omega, fun d => ?_⟩
    rw [Int.toNat_natCast]
    refine comp_range (PvOne H1 fun t => cellA rows t t) ⟨Same.refl _, [], WsL.nil, rfl, Dis.nil, fun t ht => by omega⟩ ?_ ?_ ?_
    · rintro i ys H2 hi ⟨S2, gs, W2, lg, _⟩
      rw [W2.len, lg]
      exact Nat.le_trans hi (Nat.le_trans n8 (by decide))
    · rintro i ys H2 hi ⟨S2, gs, W2, lg, hd, hf⟩
      obtain ⟨ns', e1, l1⟩ := G.sq i hi
      have G2 := GridL.mono S2 h1
      obtain ⟨r, k1, k2⟩ := grid_row G2 e1
      simp only [runs1, List.length_cons, List.length_nil, Nat.zero_add, List.replicate_succ, List.replicate_zero, List.drop_succ_cons, List.drop_zero, Int.zero_add, List.getElem?_cons_zero, List.getElem?_cons_succ, List.set_cons_zero, List.set_cons_succ, Option.some.injEq, V.int.injEq, V.ref.injEq, V.bl.injEq, V.ty.injEq, V.str.injEq, List.cons.injEq, List.append_nil, List.cons_append, List.nil_append, exists_eq, exists_eq', exists_eq_left, exists_eq_left', exists_and_left, exists_and_right, and_assoc, true_and, and_true, ↓reduceIte]
      refine ⟨_, G2.1, _, k1, r, rfl, _, k2, _, at_int (cell_at e1 (by omega)), by show 1 ≤ sizeLine; decide, fun l hl => ⟨by show 2 ≤ sizeLine; decide, fun p hp => ?_⟩⟩
      have S3 : Same H2 (upd H2 l (.lst [V.int i])) := Same.upd (Same.refl _) hl
      have hl3 : upd H2 l (.lst [V.int i]) l = some (.lst ((nI [i]).map V.int)) := upd_same
      generalize upd H2 l (.lst [V.int i]) = H3 at *
      have S4 : Same H3 (upd H3 p (.tup [V.int (cellA rows i i), V.ref l])) := Same.upd (Same.refl _) hp
      have hp4 : upd H3 p (.tup [V.int (cellA rows i i), V.ref l]) p = some (.tup [V.int (cellA rows i i), V.ref l]) := upd_same
      generalize upd H3 p (.tup [V.int (cellA rows i i), V.ref l]) = H4 at *
      refine ⟨S2.trans (S3.trans S4), gs ++ [(cellA rows i i, [i], l)], W2.snoc (S3.trans S4) hp4 (S4 _ _ hl3), by simp [lg], hd.snoc W2 hl, fun t ht => ?_⟩
      by_cases e : t < i
      · rw [← hf t e]
        unfold fOf
        rw [List.getD_eq_getElem?_getD, List.getElem?_append_left (by omega), ← List.getD_eq_getElem?_getD]
      · have : t = i := by omega
        subst this
        rw [fOf_at (e := (cellA rows t t, [t], l)) (by rw [List.getElem?_append_right (by omega), lg]; simp)]
    · rintro ys H2 ⟨S2, gs, W2, lg, hd, hf⟩ l hl
      have S3 : Same H2 (upd H2 l (.lst ys)) := Same.upd (Same.refl _) hl
      have hl3 : upd H2 l (.lst ys) l = some (.lst ys) := upd_same
      generalize upd H2 l (.lst ys) = H3 at *
      have S13 := S1.trans (S2.trans S3)
      refine ⟨g, l, rows, ys, gs, n, 0, _, _, rfl, G.mono S13, hn, no', hl3, W2.mono S3, lg, hd, Rds.one hf, by omega, fun H4 r4 zs hs S4 hr4 W4 Td => ?_⟩
      have lz := W4.len
      have lh := Td.len
      simp only [runs1, List.length_cons, List.length_nil, Nat.zero_add, List.replicate_succ, List.replicate_zero, List.drop_succ_cons, List.drop_zero, Int.zero_add, List.getElem?_cons_zero, List.getElem?_cons_succ, List.set_cons_zero, List.set_cons_succ, Option.some.injEq, V.int.injEq, V.ref.injEq, V.bl.injEq, V.ty.injEq, V.str.injEq, List.cons.injEq, List.append_nil, List.cons_append, List.nil_append, exists_eq, exists_eq', exists_eq_left, exists_eq_left', exists_and_left, exists_and_right, and_assoc, true_and, and_true, ↓reduceIte]
      refine ⟨⟨_, .of hr4⟩, fun d2 => ?_⟩
      refine comp_list (xs := zs) (PvTot H4 hs) ⟨rfl, rfl⟩ ?_ ?_ ?_
      · rintro i ys5 H5 hi ⟨rfl, rfl⟩
        refine ⟨?_, .of hr4⟩
        rw [List.length_map, List.length_map, List.length_take]
        exact Nat.le_trans (Nat.min_le_right _ _) (Nat.le_trans (show hs.length ≤ 8 by omega) (by decide))
      · rintro i x ys5 H5 hx ⟨rfl, rfl⟩
        obtain ⟨e, he⟩ := get_ex (xs := hs) (t := i) (by have := get_lt hx; omega)
        obtain ⟨p, a1, a2, a3⟩ := W4.at' i e he
        rw [hx] at a1
        cases a1
        simp only [runs1, List.length_cons, List.length_nil, Nat.zero_add, List.replicate_succ, List.replicate_zero, List.drop_succ_cons, List.drop_zero, Int.zero_add, List.getElem?_cons_zero, List.getElem?_cons_succ, List.set_cons_zero, List.set_cons_succ, Option.some.injEq, V.int.injEq, V.ref.injEq, V.bl.injEq, V.ty.injEq, V.str.injEq, List.cons.injEq, List.append_nil, List.cons_append, List.nil_append, exists_eq, exists_eq', exists_eq_left, exists_eq_left', exists_and_left, exists_and_right, and_assoc, true_and, and_true, ↓reduceIte]
        refine ⟨p, _, _, rfl, a2, rfl, ?_⟩
        rw [List.take_add_one, he]
        simp
      · rintro ys5 H5 ⟨rfl, rfl⟩ pl hpl
        rw [lz, List.take_length]
        have S6 : Same H5 (upd H5 pl (.lst ((hs.map fun e => e.1).map V.int))) := Same.upd (Same.refl _) hpl
        have hp6 : upd H5 pl (.lst ((hs.map fun e => e.1).map V.int)) pl = some (.lst ((hs.map fun e => e.1).map V.int)) := upd_same
        generalize upd H5 pl (.lst ((hs.map fun e => e.1).map V.int)) = H6 at *
        refine ⟨⟨_, S6.seq (.of hr4)⟩, fun d3 => ?_⟩
        refine comp_list (xs := zs) (PvWds H6 hs) ⟨rfl, rfl⟩ ?_ ?_ ?_
        · rintro i ys5 H5 hi ⟨rfl, rfl⟩
          refine ⟨?_, S6.seq (.of hr4)⟩
          rw [List.length_map, List.length_take]
          exact Nat.le_trans (Nat.min_le_right _ _) (Nat.le_trans (show hs.length ≤ 8 by omega) (by decide))
        · rintro i x ys5 H5 hx ⟨rfl, rfl⟩
          obtain ⟨e, he⟩ := get_ex (xs := hs) (t := i) (by have := get_lt hx; omega)
          obtain ⟨p, a1, a2, a3⟩ := W4.at' i e he
          rw [hx] at a1
          cases a1
          simp only [runs1, List.length_cons, List.length_nil, Nat.zero_add, List.replicate_succ, List.replicate_zero, List.drop_succ_cons, List.drop_zero, Int.zero_add, List.getElem?_cons_zero, List.getElem?_cons_succ, List.set_cons_zero, List.set_cons_succ, Option.some.injEq, V.int.injEq, V.ref.injEq, V.bl.injEq, V.ty.injEq, V.str.injEq, List.cons.injEq, List.append_nil, List.cons_append, List.nil_append, exists_eq, exists_eq', exists_eq_left, exists_eq_left', exists_and_left, exists_and_right, and_assoc, true_and, and_true, ↓reduceIte]
          refine ⟨p, _, _, rfl, S6 _ _ a2, rfl, ?_⟩
          rw [List.take_add_one, he]
          simp
        · rintro ys7 H7 ⟨rfl, rfl⟩ rl hrl
          rw [lz, List.take_length]
          have S7 : Same H7 (upd H7 rl (.lst (hs.map fun e => V.ref e.2.2))) := Same.upd (Same.refl _) hrl
          have hr7 : upd H7 rl (.lst (hs.map fun e => V.ref e.2.2)) rl = some (.lst (hs.map fun e => V.ref e.2.2)) := upd_same
          generalize upd H7 rl (.lst (hs.map fun e => V.ref e.2.2)) = H8 at *
          refine ⟨by show 2 ≤ sizeLine; decide, fun tp htp => ?_⟩
          have S9 : Same H8 (upd H8 tp (.tup [V.ref pl, V.ref rl])) := Same.upd (Same.refl _) htp
          have ht9 : upd H8 tp (.tup [V.ref pl, V.ref rl]) tp = some (.tup [V.ref pl, V.ref rl]) := upd_same
          generalize upd H8 tp (.tup [V.ref pl, V.ref rl]) = H9 at *
          have S79 := S7.trans S9
          refine q0 H9 _ hs (S13.trans (S4.trans (S6.trans S79))) ⟨⟨tp, pl, rl, rfl, ht9, S79 _ _ hp6, S9 _ _ hr7⟩, fun e he => ?_⟩ ⟨lh, Td.dis, no', by have := Td.rds; rw [Nat.zero_add] at this; exact this, fun t ht => ?_⟩
          · obtain ⟨t, ht, rfl⟩ := List.getElem_of_mem he
            obtain ⟨p, a1, a2, a3⟩ := W4.at' t hs[t] (by simp [ht])
            exact (S6.trans S79) _ _ a3
          · have := Td.le t ht
            rw [hf t ht] at this
            exact this
end

/-- as the law sums it: the first word ahead of itself too -/
def PvAl (g p : Addr) (rows : List (List Int)) (a : Nat) (ws : List Nat) (H : Hp) (i : Nat) (σ : L2.St) (H4 : Hp) : Prop := H4 = H ∧ ∃ (v4 : Option V), σ = [some (.ref g), some (.ref p), some (.int (walkA rows a ((a :: ws).take i))), some (.int (lastN a ((a :: ws).take i))), v4]
theorem walk_take (rows : List (List Int)) {xs : List Nat} {a i x : Nat} (h : xs[i]? = some x) : walkA rows a (xs.take (i + 1)) = walkA rows a (xs.take i) + turnA rows (lastN a (xs.take i)) x := by
  rw [List.take_add_one, h]
  exact walkA_snoc rows (xs.take i) a x
theorem last_snoc : ∀ (ws : List Nat) (a x : Nat), lastN a (ws ++ [x]) = x
  | [], _, _ => rfl
  | w :: ws, a, x => last_snoc ws w x
theorem last_take {xs : List Nat} {a i x : Nat} (h : xs[i]? = some x) : lastN a (xs.take (i + 1)) = x := by
  rw [List.take_add_one, h]
  exact last_snoc (xs.take i) a x
section
variable {P : Program} {w : World} {K : PySem.W.Frag} {mg : Str → Option Value} {base : Heap}
set_option maxHeartbeats 4000000
theorem f_law_along (B : Bt mg) (D : DefIn K mg "_law_along" s_law_along ["grid", "words"]) : FnAt P w K mg base "_law_along" 1 ["grid", "words"] (spAlong K) := by
  refine FnAt.of D sc_law_along (fun vs H Q E h => ?_) (fun f cdv A outer s H vs Q E hr h => ?_)
  · obtain ⟨g, p, as, rows, n, a, ws, rfl, _⟩ := h
    rfl
  · obtain ⟨g, p, as, rows, n, a, ws, rfl, G, hw, hp, hlt, hlen, q⟩ := h
    refine ⟨_, (@pss_cons _ _ _ _ _ (ps_set (i := 2) sc_law_along.nd rfl (Or.inl rfl) (@pe_int _ _ _ _)) (@pss_cons _ _ _ _ _ (ps_set (i := 3) sc_law_along.nd rfl (Or.inl rfl) (@pe_ix _ _ _ _ _ _ _ ix_list (pv 1) (@pe_int _ _ _ _) (fun _ _ => rfl))) (@pss_cons _ _ _ _ _ (ps_for PassesOwn.never rfl (@pi_list _ _ _ _ (pv 1)) (pg_name (i := 4) sc_law_along.nd rfl (Or.inl rfl)) (@pss_cons _ _ _ _ _ (ps_set (i := 2) sc_law_along.nd rfl (Or.inl rfl) (@pe_op _ _ _ _ _ _ _ _ op_sub (@pe_op _ _ _ _ _ _ _ _ op_add (pv 2) (@pe_ix _ _ _ _ _ _ _ ix_list (@pe_ix _ _ _ _ _ _ _ ix_list (pv 0) (pv 4) (fun _ _ => rfl)) (pv 4) (fun _ _ => rfl))) (@pe_ix _ _ _ _ _ _ _ ix_list (@pe_ix _ _ _ _ _ _ _ ix_list (pv 0) (pv 4) (fun _ _ => rfl)) (pv 3) (fun _ _ => rfl)))) (@pss_one _ _ _ (ps_set (i := 3) sc_law_along.nd rfl (Or.inl rfl) (pv 4))))) (@pss_one _ _ _ (@ps_ret _ _ _ _ (pv 2)))))), ?_⟩
    rw [show start ["grid", "words", "whole", "ahead", "word"] [V.ref g, V.ref p] = [some (V.ref g), some (V.ref p), none, none, none] from rfl]
    simp only [runs1, List.length_cons, List.length_nil, Nat.zero_add, List.replicate_succ, List.replicate_zero, List.drop_succ_cons, List.drop_zero, Int.zero_add, List.getElem?_cons_zero, List.getElem?_cons_succ, List.set_cons_zero, List.set_cons_succ, Option.some.injEq, V.int.injEq, V.ref.injEq, V.bl.injEq, V.ty.injEq, V.str.injEq, List.cons.injEq, List.append_nil, List.cons_append, List.nil_append, exists_eq, exists_eq', exists_eq_left, exists_eq_left', exists_and_left, exists_and_right, and_assoc, true_and, and_true, ↓reduceIte]
    refine ⟨_, hp, _, atI_nat (j := 0) (nI_at (ws := a :: ws) rfl), ⟨_, hp⟩, ?_⟩
    refine for_list (xs := (nI (a :: ws)).map V.int) (PvAl g p rows a ws H) ⟨rfl, _, rfl⟩ ?_ ?_ ?_
    · rintro i σ H4 hi ⟨rfl, v4, rfl⟩
      exact hp
    · rintro i x σ H4 hx ⟨rfl, v4, rfl⟩
      obtain ⟨x', ex, rfl⟩ := nI_get hx
      have hxn : x' < n := hlt _ (List.mem_of_getElem? ex)
      have hla : lastN a ((a :: ws).take i) < n := by
        have := lastN_mem ((a :: ws).take i) a
        rcases List.mem_cons.mp this with z | z
        · rw [z]; exact hlt _ List.mem_cons_self
        · exact hlt _ (List.mem_of_mem_take z)
      obtain ⟨ns, e1, l1⟩ := hw x' hxn
      obtain ⟨r, k1, k2⟩ := grid_row G e1
      simp only [runs1, List.length_cons, List.length_nil, Nat.zero_add, List.replicate_succ, List.replicate_zero, List.drop_succ_cons, List.drop_zero, Int.zero_add, List.getElem?_cons_zero, List.getElem?_cons_succ, List.set_cons_zero, List.set_cons_succ, Option.some.injEq, V.int.injEq, V.ref.injEq, V.bl.injEq, V.ty.injEq, V.str.injEq, List.cons.injEq, List.append_nil, List.cons_append, List.nil_append, exists_eq, exists_eq', exists_eq_left, exists_eq_left', exists_and_left, exists_and_right, and_assoc, true_and, and_true, ↓reduceIte]
      refine ⟨_, G.1, _, k1, r, rfl, _, k2, _, at_int (cell_at e1 (by omega)), _, rfl, _, G.1, _, k1, r, rfl, _, k2, _, at_int (cell_at e1 (by omega)), _, rfl, rfl, some (V.int x'), ?_⟩
      rw [walk_take rows ex, last_take ex]
      unfold turnA
      rw [show ∀ z u v : Int, z + (u - v) = z + u - v from fun z u v => by omega]
    · rintro σ H4 ⟨rfl, v4, rfl⟩
      simp only [runs1, List.length_cons, List.length_nil, Nat.zero_add, List.replicate_succ, List.replicate_zero, List.drop_succ_cons, List.drop_zero, Int.zero_add, List.getElem?_cons_zero, List.getElem?_cons_succ, List.set_cons_zero, List.set_cons_succ, Option.some.injEq, V.int.injEq, V.ref.injEq, V.bl.injEq, V.ty.injEq, V.str.injEq, List.cons.injEq, List.append_nil, List.cons_append, List.nil_append, exists_eq, exists_eq', exists_eq_left, exists_eq_left', exists_and_left, exists_and_right, and_assoc, true_and, and_true, ↓reduceIte]
      have e : ((nI (a :: ws)).map V.int).length = (a :: ws).length := by simp
      rw [e, List.take_length]
      have := q H4 (Same.refl _)
      show _
      rw [show walkA rows a (a :: ws) = walkA rows a ws from by
        show turnA rows a a + walkA rows a ws = walkA rows a ws
        rw [turnA_self]; omega]
      exact this
end

theorem firstMet_nd {c : List Int} (hd : c.Nodup) : ∀ i, i ≤ c.length → firstMet (fun j => c.getD j 0) i = c.take i
  | 0, _ => by rw [firstMet_zero, List.take_zero]
  | i + 1, h => by
    have ih := firstMet_nd hd i (by omega)
    have hi : i < c.length := by omega
    have eg : c.getD i 0 = c[i] := by simp [List.getD_eq_getElem?_getD, hi]
    rw [firstMet_succ, ih]
    unfold step_dedup
    have hno : (c.take i).any (· == c.getD i 0) = false := by
      rw [eg, List.any_eq_false]
      intro x hx e
      obtain ⟨j, hj, ej⟩ := List.getElem_of_mem hx
      rw [List.length_take] at hj
      rw [List.getElem_take] at ej
      have e' : x = c[i] := by simpa using e
      have : j = i := (List.getElem_inj hd).mp (ej.trans e')
      omega
    first
      | (rw [hno]; simp only [Bool.false_eq_true, if_false]; rw [eg, List.take_add_one]; simp [hi])
      | (simp only [hno, Bool.false_eq_true, if_false]; rw [eg, List.take_add_one]; simp [hi])
      | (rw [if_neg (by rw [hno]; simp)]; rw [eg, List.take_add_one]; simp [hi])
theorem nI_nodup {c : List Nat} (h : c.Nodup) : (nI c).Nodup := by
  unfold nI
  exact List.Pairwise.map _ (fun a b z e => z (by omega)) h
def spLWords (K : PySem.W.Frag) : Sp := fun vs H Q _ => ∃ (l : Addr) (c : List Nat) (n : Nat), vs = [.ref l, .int n] ∧ H l = some (.lst ((nI c).map V.int)) ∧ c.Nodup ∧ (∀ x ∈ c, x < n) ∧ 0 < c.length ∧ n ≤ 8 ∧ ∀ H', Same H H' → Q (.bl true) H'
def PvW (l : Addr) (n : Nat) (H1 : Hp) (i : Nat) (σ : L2.St) (H4 : Hp) : Prop := H4 = H1 ∧ ∃ v2, σ = [some (.ref l), some (.int n), v2]
section
variable {P : Program} {w : World} {K : PySem.W.Frag} {mg : Str → Option Value} {base : Heap}
set_option maxHeartbeats 4000000
theorem f_law_words (B : Bt mg) (D : DefIn K mg "_law_words" s_law_words ["words", "many"]) : FnAt P w K mg base "_law_words" 1 ["words", "many"] (spLWords K) := by
  refine FnAt.of D sc_law_words (fun vs H Q E h => ?_) (fun f cdv A outer s H vs Q E hr h => ?_)
  · obtain ⟨l, c, n, rfl, _⟩ := h
    rfl
  · obtain ⟨l, c, n, rfl, hl, hd, hlt, h0, n8, q⟩ := h
    refine ⟨_, (@pss_cons _ _ _ _ _ (@ps_if _ _ _ _ _ _ _ _ (PW.pt (@pw_or _ _ _ _ _ _ _ (@pt_not _ _ _ _ (pt_val (pe_callB call_isinst rfl B.isinstance bt_isinstance (pa_cons (pv 0) (pa_cons (pe_ty rfl B.list bt_list) (@pa_nil _)))))) (@pw_or1 _ _ _ _ (@pt_cmpR _ _ _ _ _ _ _ _ (op_eqL (Nat.lt_of_succ_lt (hu_of hr))) (pv 0) (@pe_lst _ _ _ _ (@pa_nil _)) (nomark _))))) (@pss_one _ _ _ (@ps_ret _ _ _ _ (@pe_bl _ _ _ _))) (@pss_nil _)) (@pss_cons _ _ _ _ _ (ps_for PassesOwn.never rfl (@pi_list _ _ _ _ (pv 0)) (pg_name (i := 2) sc_law_words.nd rfl (Or.inl rfl)) (@pss_one _ _ _ (@ps_if _ _ _ _ _ _ _ _ (PW.pt (@pw_or _ _ _ _ _ _ _ (@pt_not _ _ _ _ (pt_val (pe_callB call_isinst rfl B.isinstance bt_isinstance (pa_cons (pv 2) (pa_cons (pe_ty rfl B.int bt_int) (@pa_nil _)))))) (@pw_or _ _ _ _ _ _ _ (pt_val (pe_callB call_isinst rfl B.isinstance bt_isinstance (pa_cons (pv 2) (pa_cons (pe_ty rfl B.bool bt_bool) (@pa_nil _))))) (@pw_or _ _ _ _ _ _ _ (@pt_cmpR _ _ _ _ _ _ _ _ op_lt (pv 2) (@pe_int _ _ _ _) (nomark _)) (@pw_or1 _ _ _ _ (@pt_cmpR _ _ _ _ _ _ _ _ op_ge (pv 2) (pv 1) (nomark _))))))) (@pss_one _ _ _ (@ps_ret _ _ _ _ (@pe_bl _ _ _ _))) (@pss_nil _)))) (@pss_one _ _ _ (@ps_ret _ _ _ _ (@pe_cmpR _ _ _ _ _ _ _ _ op_eq (pe_callB call_len_setI rfl B.len bt_len (pa_cons (pe_callTy (call_setL rfl) rfl B.set bt_set (pa_cons (pv 0) (@pa_nil _))) (@pa_nil _))) (pe_callB call_len_seq rfl B.len bt_len (pa_cons (pv 0) (@pa_nil _))) (nomark _)))))), ?_⟩
    rw [show start ["words", "many", "word"] [V.ref l, V.int n] = [some (V.ref l), some (V.int n), none] from rfl]
    simp only [runs1, List.length_cons, List.length_nil, Nat.zero_add, List.replicate_succ, List.replicate_zero, List.drop_succ_cons, List.drop_zero, Int.zero_add, List.getElem?_cons_zero, List.getElem?_cons_succ, List.set_cons_zero, List.set_cons_succ, Option.some.injEq, V.int.injEq, V.ref.injEq, V.bl.injEq, V.ty.injEq, V.str.injEq, List.cons.injEq, List.append_nil, List.cons_append, List.nil_append, exists_eq, exists_eq', exists_eq_left, exists_eq_left', exists_and_left, exists_and_right, and_assoc, true_and, and_true, ↓reduceIte]
    refine ⟨_, .lst hl, true, kit_ll, iteF ⟨Nat.zero_le _, fun p hp => ?_⟩⟩
    have S1 : Same H (upd H p (.lst [])) := Same.upd (Same.refl _) hp
    refine ⟨nI c, S1.seq (.of hl), [], .of upd_same, ?_⟩
    have hc8 := few hd hlt
    rw [decide_eq_false (by cases c with | nil => simp at h0 | cons _ _ => simp [nI])]
    refine iteF ⟨⟨_, S1.seq (.of hl)⟩, ?_⟩
    generalize upd H p (.lst []) = H1 at *
    refine for_list (xs := (nI c).map V.int) (PvW l n H1) ⟨rfl, _, rfl⟩ ?_ ?_ ?_
    · rintro i σ H4 hi ⟨rfl, v2, rfl⟩
      exact S1.seq (.of hl)
    · rintro i x σ H4 hx ⟨rfl, v2, rfl⟩
      obtain ⟨x', ex, rfl⟩ := nI_get hx
      have hx' := hlt _ (List.mem_of_getElem? ex)
      simp only [runs1, List.length_cons, List.length_nil, Nat.zero_add, List.replicate_succ, List.replicate_zero, List.drop_succ_cons, List.drop_zero, Int.zero_add, List.getElem?_cons_zero, List.getElem?_cons_succ, List.set_cons_zero, List.set_cons_succ, Option.some.injEq, V.int.injEq, V.ref.injEq, V.bl.injEq, V.ty.injEq, V.str.injEq, List.cons.injEq, List.append_nil, List.cons_append, List.nil_append, exists_eq, exists_eq', exists_eq_left, exists_eq_left', exists_and_left, exists_and_right, and_assoc, true_and, and_true, ↓reduceIte]
      refine ⟨_, .int _, true, kit_ii, iteF ⟨_, .int _, false, kit_ib, iteF (ite2 (fun h => ?_) (fun _ => ite2 (fun h => ?_) (fun _ => ⟨rfl, _, rfl⟩)))⟩⟩
      · have := of_decide_eq_true h; omega
      · have := of_decide_eq_true h; omega
    · rintro σ H4 ⟨rfl, v2, rfl⟩
      simp only [runs1, List.length_cons, List.length_nil, Nat.zero_add, List.replicate_succ, List.replicate_zero, List.drop_succ_cons, List.drop_zero, Int.zero_add, List.getElem?_cons_zero, List.getElem?_cons_succ, List.set_cons_zero, List.set_cons_succ, Option.some.injEq, V.int.injEq, V.ref.injEq, V.bl.injEq, V.ty.injEq, V.str.injEq, List.cons.injEq, List.append_nil, List.cons_append, List.nil_append, exists_eq, exists_eq', exists_eq_left, exists_eq_left', exists_and_left, exists_and_right, and_assoc, true_and, and_true, ↓reduceIte]
      refine ⟨nI c, S1.seq (.of hl), by simp [nI, scanBound]; omega, fun p2 hp2 => ⟨_, _, upd_same, _, .inl ((S1.trans (Same.upd (Same.refl _) hp2)).seq (.of hl)), rfl, ?_⟩⟩
      rw [firstMet_nd (nI_nodup hd) _ (Nat.le_refl _), List.take_length, decide_eq_true (by simp [nI])]
      exact q _ (S1.trans (Same.upd (Same.refl _) hp2))
end

def spLRing (K : PySem.W.Frag) : Sp := fun vs H Q _ => ∃ (g l : Addr) (rows : List (List Int)) (c : List Nat) (n : Nat), vs = [.ref g, .ref l] ∧ Gd K H g rows n ∧ H l = some (.lst ((nI c).map V.int)) ∧ RingA (turnA rows) n c ∧ ∀ H', Same H H' → Q (.bl true) H'
section
variable {P : Program} {w : World} {K : PySem.W.Frag} {mg : Str → Option Value} {base : Heap}
set_option maxHeartbeats 4000000
theorem f_law_ring (B : Bt mg) (f_law_words : FnAt P w K mg base "_law_words" 1 ["words", "many"] (spLWords K)) (f_law_along : FnAt P w K mg base "_law_along" 1 ["grid", "words"] (spAlong K)) (D : DefIn K mg "_law_ring" s_law_ring ["grid", "words"]) : FnAt P w K mg base "_law_ring" 2 ["grid", "words"] (spLRing K) := by
  refine FnAt.of D sc_law_ring (fun vs H Q E h => ?_) (fun f cdv A outer s H vs Q E hr h => ?_)
  · obtain ⟨g, l, rows, c, n, rfl, _⟩ := h
    rfl
  · obtain ⟨g, l, rows, c, n, rfl, G, hl, R, q⟩ := h
    have n8 := G.n8
    refine ⟨_, (@pss_cons _ _ _ _ _ (@ps_if _ _ _ _ _ _ _ _ (PW.pt (@pw_or _ _ _ _ _ _ _ (@pt_not _ _ _ _ (pt_val (pe_callA f_law_words (hr.mono (by decide)) rfl (pa_cons (pv 1) (pa_cons (pe_callB call_len_seq rfl B.len bt_len (pa_cons (pv 0) (@pa_nil _))) (@pa_nil _)))))) (@pw_or1 _ _ _ _ (@pt_cmpR _ _ _ _ _ _ _ _ op_lt (pe_callB call_len_seq rfl B.len bt_len (pa_cons (pv 1) (@pa_nil _))) (@pe_int _ _ _ _) (nomark _))))) (@pss_one _ _ _ (@ps_ret _ _ _ _ (@pe_bl _ _ _ _))) (@pss_nil _)) (@pss_one _ _ _ (@ps_ret _ _ _ _ (@pe_cmpR _ _ _ _ _ _ _ _ op_lt (pe_callA f_law_along (hr.mono (by decide)) rfl (pa_cons (pv 0) (pa_cons (@pe_op _ _ _ _ _ _ _ _ op_cat (pv 1) (@pe_lst _ _ _ _ (pa_cons (@pe_ix _ _ _ _ _ _ _ ix_list (pv 1) (@pe_int _ _ _ _) (fun _ _ => rfl)) (@pa_nil _)))) (@pa_nil _)))) (@pe_int _ _ _ _) (nomark _))))), ?_⟩
    rw [show start ["grid", "words"] [V.ref g, V.ref l] = [some (V.ref g), some (V.ref l)] from rfl]
    simp only [runs1, List.length_cons, List.length_nil, Nat.zero_add, List.replicate_succ, List.replicate_zero, List.drop_succ_cons, List.drop_zero, Int.zero_add, List.getElem?_cons_zero, List.getElem?_cons_succ, List.set_cons_zero, List.set_cons_succ, Option.some.injEq, V.int.injEq, V.ref.injEq, V.bl.injEq, V.ty.injEq, V.str.injEq, List.cons.injEq, List.append_nil, List.cons_append, List.nil_append, exists_eq, exists_eq', exists_eq_left, exists_eq_left', exists_and_left, exists_and_right, and_assoc, true_and, and_true, ↓reduceIte]
    obtain ⟨as, h1, h2⟩ := G.ex
    have hc := few R.nd R.lt
    have two := R.two
    have neg := R.neg
    refine ⟨_, .inl h1.1, ?_⟩
    rw [List.length_map, h2]
    refine ⟨l, c, n, rfl, hl, R.nd, R.lt, by omega, n8, fun H1 S1 => ?_⟩
    simp only [runs1, List.length_cons, List.length_nil, Nat.zero_add, List.replicate_succ, List.replicate_zero, List.drop_succ_cons, List.drop_zero, Int.zero_add, List.getElem?_cons_zero, List.getElem?_cons_succ, List.set_cons_zero, List.set_cons_succ, Option.some.injEq, V.int.injEq, V.ref.injEq, V.bl.injEq, V.ty.injEq, V.str.injEq, List.cons.injEq, List.append_nil, List.cons_append, List.nil_append, exists_eq, exists_eq', exists_eq_left, exists_eq_left', exists_and_left, exists_and_right, and_assoc, true_and, and_true, ↓reduceIte]
    have hl1 := S1 _ _ hl
    obtain ⟨c0, cs, rfl⟩ : ∃ c0 cs, c = c0 :: cs := by
      cases c with
      | nil => simp at two
      | cons c0 cs => exact ⟨c0, cs, rfl⟩
    refine iteF ⟨_, .inl (.of hl1), ite2 (fun h => ?_) (fun _ => ?_)⟩
    · have := of_decide_eq_true h
      simp [nI] at this two
      omega
    refine ⟨_, .of hl1, _, atI_nat (j := 0) (nI_at (ws := c0 :: cs) rfl), by show 1 ≤ sizeLine; decide, fun b1 hb1 => ?_⟩
    have S7 : Same H1 (upd H1 b1 (.lst [V.int c0])) := Same.upd (Same.refl _) hb1
    refine ⟨_, S7 _ _ hl1, _, upd_same, ?_, fun c1 hc1 => ?_⟩
    · simp only [nI, List.length_map, List.length_cons, List.length_nil] at hc ⊢
      exact Nat.le_trans (show cs.length + 1 + 1 ≤ 10 by omega) (by decide)
    · have S8 : Same (upd H1 b1 (.lst [V.int c0])) (upd (upd H1 b1 (.lst [V.int c0])) c1 (.lst ((nI (c0 :: cs)).map V.int ++ [V.int c0]))) := Same.upd (Same.refl _) hc1
      have S68 := S7.trans S8
      have hc8 : upd (upd H1 b1 (.lst [V.int c0])) c1 (.lst ((nI (c0 :: cs)).map V.int ++ [V.int c0])) c1 = some (.lst ((nI (c0 :: (cs ++ [c0]))).map V.int)) := by rw [upd_same, nI_snoc]; rfl
      generalize upd (upd H1 b1 (.lst [V.int c0])) c1 (.lst ((nI (c0 :: cs)).map V.int ++ [V.int c0])) = H8 at *
      have Sall : Same H H8 := S1.trans S68
      refine ⟨g, c1, as, rows, n, c0, cs ++ [c0], rfl, GridL.mono Sall h1, G.sq, .of hc8, fun y hy => ?_, ?_, fun H9 S9 => ?_⟩
      · rcases List.mem_cons.mp hy with z | z
        · rw [z]; exact R.lt c0 List.mem_cons_self
        · rcases List.mem_append.mp z with z | z
          · exact R.lt y (List.mem_cons_of_mem _ z)
          · rw [List.mem_singleton.mp z]; exact R.lt c0 List.mem_cons_self
      · simp at hc ⊢; omega
      · have neg' : wk (turnA rows) c0 (cs ++ [c0]) < 0 := neg
        rw [wk_A] at neg'
        refine ⟨_, rfl, ?_⟩
        rw [decide_eq_true neg']
        exact q _ (Sall.trans S9)
end

/-- payments by which nobody gains -/
def Hon (rows : List (List Int)) (ps : List Int) (n : Nat) : Prop := ∀ t s : Nat, t < n → s < n → cellA rows t s - cellA rows t t ≤ ps.getD s 0 - ps.getD t 0

theorem hon_wk {rows : List (List Int)} {ps : List Int} {n : Nat} (h : Hon rows ps n) : ∀ (ws : List Nat) (s : Nat), s < n → (∀ x ∈ ws, x < n) → ps.getD (lst s ws) 0 - ps.getD s 0 ≤ wk (turnA rows) s ws
  | [], s, _, _ => by show ps.getD s 0 - ps.getD s 0 ≤ 0; omega
  | w :: ws, s, hs, hw => by
    have hw' := hw w List.mem_cons_self
    have h1 := hon_wk h ws w hw' fun x hx => hw x (List.mem_cons_of_mem _ hx)
    have h2 := h w s hw' hs
    show ps.getD (lst w ws) 0 - ps.getD s 0 ≤ turnA rows s w + wk (turnA rows) w ws
    unfold turnA
    unfold turnA at h1
    omega
theorem ring_no {rows : List (List Int)} {ps : List Int} {n : Nat} {c : List Nat} (R : RingA (turnA rows) n c) : ¬ Hon rows ps n := fun h => by
  have neg := R.neg
  have lt := R.lt
  have two := R.two
  cases c with
  | nil => simp at two
  | cons s ws =>
    have hs := lt s List.mem_cons_self
    have := hon_wk h (ws ++ [s]) s hs fun x hx => by
      rcases List.mem_append.mp hx with z | z
      · exact lt x (List.mem_cons_of_mem _ z)
      · rw [List.mem_singleton.mp z]; exact hs
    rw [lst_snoc] at this
    have neg' : wk (turnA rows) s (ws ++ [s]) < 0 := neg
    omega
theorem pays_at {gs : List (Int × List Nat × Addr)} {t : Nat} (h : t < gs.length) : (gs.map fun e => e.1).getD t 0 = (fOf gs t).1 := by
  obtain ⟨e, he⟩ := get_ex h
  rw [fOf_at he, List.getD_eq_getElem?_getD, List.getElem?_map, he]
  rfl

theorem Great.hon {rows : List (List Int)} {n : Nat} {gs : List (Int × List Nat × Addr)} (g : Great rows n gs) : Hon rows (gs.map fun e => e.1) n := fun t s ht hs => by
  have lg := g.len
  rw [pays_at (by omega), pays_at (by omega)]
  have := g.rds.honest g.no (by omega) hs ht
  unfold turnA at this
  omega

def mirRow (rows : List (List Int)) (n t : Nat) : List Int := (List.range n).map fun s => -turnA rows t s
def mirA (rows : List (List Int)) (n : Nat) : List (List Int) := (List.range n).map fun t => mirRow rows n t
theorem mir_cell {rows : List (List Int)} {n t s : Nat} (ht : t < n) (hs : s < n) : cellA (mirA rows n) t s = -turnA rows t s := by
  have e1 : (mirA rows n).getD t [] = mirRow rows n t := by
    unfold mirA
    rw [List.getD_eq_getElem?_getD, List.getElem?_map, List.getElem?_range ht]; rfl
  unfold cellA
  rw [e1]
  unfold mirRow
  rw [List.getD_eq_getElem?_getD, List.getElem?_map, List.getElem?_range hs]; rfl
theorem mir_turn {rows : List (List Int)} {n t s : Nat} (ht : t < n) (hs : s < n) : turnA (mirA rows n) s t = turnA rows t s := by
  show cellA (mirA rows n) t t - cellA (mirA rows n) t s = _
  rw [mir_cell ht ht, mir_cell ht hs, turnA_self]
  omega
/-- walked backwards -/
theorem rev_wk {rows : List (List Int)} {n : Nat} : ∀ (ws : List Nat) (s : Nat), s < n → (∀ x ∈ ws, x < n) → ∃ rs, (s :: ws).reverse = lst s ws :: rs ∧ lst (lst s ws) rs = s ∧ rs.length = ws.length ∧ wk (turnA rows) (lst s ws) rs = wk (turnA (mirA rows n)) s ws
  | [], s, _, _ => ⟨[], rfl, rfl, rfl, rfl⟩
  | w :: ws, s, hs, hw => by
    have hwn := hw w List.mem_cons_self
    obtain ⟨rs, e1, e2, e3, e4⟩ := rev_wk (rows := rows) ws w hwn fun x hx => hw x (List.mem_cons_of_mem _ hx)
    refine ⟨rs ++ [s], ?_, lst_snoc _ _ _, by simp [e3], ?_⟩
    · rw [List.reverse_cons, e1]; rfl
    · show wk (turnA rows) (lst w ws) (rs ++ [s]) = turnA (mirA rows n) s w + wk (turnA (mirA rows n)) w ws
      rw [wk_snoc, e2, e4, mir_turn hwn hs]
      omega
theorem rev_mem {s : Nat} {ws : List Nat} {t : Nat} {rs : List Nat} (e : (s :: ws).reverse = t :: rs) {x : Nat} (hx : x ∈ t :: rs) : x ∈ s :: ws := by
  rw [← e] at hx
  exact List.mem_reverse.mp hx
theorem mir_no {rows : List (List Int)} {n : Nat} (no : ∀ k, NoNeg (turnA rows) n k) : ∀ k, NoNeg (turnA (mirA rows n)) n k := fun k s ws hs hw => by
  obtain ⟨rs, e1, e2, e3, e4⟩ := rev_wk (rows := rows) ws s hs hw.lt
  have hto := hw.to
  rw [hto] at e1 e2 e4
  rw [← e4]
  refine no k s rs hs ⟨by rw [e3]; exact hw.len, fun x hx => ?_, e2⟩
  rcases List.mem_cons.mp (rev_mem e1 (List.mem_cons_of_mem _ hx)) with z | z
  · rw [z]; exact hs
  · exact hw.lt x z
structure LeastT (rows : List (List Int)) (n : Nat) (gs : List (Int × List Nat × Addr)) : Prop where
  len : gs.length = n
  dis : Dis gs
  no : ∀ k, NoNeg (turnA rows) n k
  hon : Hon rows (gs.map fun e => e.1) n
  nn : ∀ t, t < n → 0 ≤ (fOf gs t).1
  road : ∀ (t : Nat) e, gs[t]? = some e → ∃ rs, e.2.1 = t :: rs ∧ (t :: rs).Nodup ∧ (∀ x ∈ t :: rs, x < n) ∧ e.1 = -walkA rows t rs
/-- what nobody can be asked below -/
theorem LeastT.low {rows : List (List Int)} {n : Nat} {gs : List (Int × List Nat × Addr)} (g : LeastT rows n gs) {ds : List Int} {m : Int} (h : Hon rows ds n) (hm : ∀ t, t < n → m ≤ ds.getD t 0) {t : Nat} (ht : t < n) : (fOf gs t).1 ≤ ds.getD t 0 - m := by
  obtain ⟨e, he⟩ := get_ex (xs := gs) (t := t) (by have := g.len; omega)
  obtain ⟨rs, e1, e2, e3, e4⟩ := g.road t e he
  rw [fOf_at he]
  show e.1 ≤ _
  have hrs : ∀ x ∈ rs, x < n := fun x hx => e3 x (List.mem_cons_of_mem _ hx)
  have h1 := hon_wk h rs t ht hrs
  rw [wk_A] at h1
  have h2 := hm (lst t rs) (lst_lt ht hrs)
  omega
def spMirRow (K : PySem.W.Frag) : Sp := fun vs H Q _ => ∃ (g : Addr) (rows : List (List Int)) (n t : Nat), vs = [.ref g, .int t] ∧ Gd K H g rows n ∧ t < n ∧ ∀ l, H l = none → Q (.ref l) (upd H l (.lst ((mirRow rows n t).map V.int)))
def spMir (K : PySem.W.Frag) : Sp := fun vs H Q _ => ∃ (g : Addr) (rows : List (List Int)) (n : Nat), vs = [.ref g] ∧ Gd K H g rows n ∧ ∀ H' g', Same H H' → Gd K H' g' (mirA rows n) n → Q (.ref g') H'
def spLeastP (a : Ad) (K : PySem.W.Frag) : Sp := fun vs H Q E => ∃ (g : Addr) (rows : List (List Int)) (n : Nat), vs = [.ref g] ∧ Gd K H g rows n ∧ 0 < n ∧ (∀ H' v gs, Same H H' → ToldAt H' v gs → LeastT rows n gs → Q v H') ∧
  ∀ H' c, Same H H' → RingA (turnA rows) n c → E (.ref a.NoPays) none H'
def PvMR (H : Hp) (rows : List (List Int)) (t : Nat) (i : Nat) (ys : List V) (H4 : Hp) : Prop := H4 = H ∧ ys = ((List.range i).map fun s => -turnA rows t s).map V.int
def PvMG (H6 : Hp) (ws : List (List Int)) (i : Nat) (ys : List V) (H7 : Hp) : Prop := ∃ cs, ys = cs.map V.ref ∧ Copy H6 H7 ws i cs
def PvNeg (H3 : Hp) (gs : List (Int × List Nat × Addr)) (i : Nat) (ys : List V) (H4 : Hp) : Prop := H4 = H3 ∧ ys = ((gs.take i).map fun e => -e.1).map V.int
def PvRev (H : Hp) (hs : List (Int × List Nat × Addr)) (i : Nat) (ys : List V) (H4 : Hp) : Prop := Same H H4 ∧ ∃ ks : List (Int × List Nat × Addr), ks.length = i ∧ ys = (ks.map fun e => V.ref e.2.2) ∧ Dis ks ∧ ∀ (t : Nat) e, ks[t]? = some e → H4 e.2.2 = some (.lst ((nI e.2.1).map V.int)) ∧ ∃ d, hs[t]? = some d ∧ e.1 = -d.1 ∧ e.2.1 = d.2.1.reverse
theorem nI_rev (ws : List Nat) : ((nI ws).map V.int).reverse = (nI ws.reverse).map V.int := by
  rw [nI, nI, List.map_reverse, List.map_reverse]
section
variable {P : Program} {w : World} {K : PySem.W.Frag} {mg : Str → Option Value} {base : Heap} {a : Ad}
set_option maxHeartbeats 4000000
theorem f_mirrored_row (B : Bt mg) (f_turn : FnAt P w K mg base "turn" 1 ["grid", "s", "t"] (spTurn K)) (D : DefIn K mg "mirrored_row" s_mirrored_row ["grid", "t"]) : FnAt P w K mg base "mirrored_row" 2 ["grid", "t"] (spMirRow K) := by
  refine FnAt.of D sc_mirrored_row (fun vs H Q E h => ?_) (fun f cdv A outer s H vs Q E hr h => ?_)
  · obtain ⟨g, rows, n, t, rfl, _⟩ := h
    rfl
  · obtain ⟨g, rows, n, t, rfl, G, ht, q⟩ := h
    have n8 := G.n8
    refine ⟨_, (@pss_one _ _ _ (@ps_ret _ _ _ _ (pe_comp ["s"] ["grid", "t"] rfl (pi_range1 rfl B.range (pa_cons (pe_callB call_len_seq rfl B.len bt_len (pa_cons (pv 0) (@pa_nil _))) (@pa_nil _))) (fun _ => (pg_name (i := 0) (show (["s", "grid", "t"] : List Str).Nodup by decide +kernel) rfl (Or.inl rfl))) (fun _ => (@pts_nil _)) (fun _ => (@pe_un _ _ _ _ _ _ un_neg (pe_callA f_turn (hr.mono (by decide)) rfl (pa_cons (pv 1) (pa_cons (pv 2) (pa_cons (pv 0) (@pa_nil _))))))) rfl (by decide +kernel) rfl rfl))), ?_⟩
    rw [show start ["grid", "t"] [V.ref g, V.int t] = [some (V.ref g), some (V.int t)] from rfl]
    simp only [runs1, List.length_cons, List.length_nil, Nat.zero_add, List.replicate_succ, List.replicate_zero, List.drop_succ_cons, List.drop_zero, Int.zero_add, List.getElem?_cons_zero, List.getElem?_cons_succ, List.set_cons_zero, List.set_cons_succ, Option.some.injEq, V.int.injEq, V.ref.injEq, V.bl.injEq, V.ty.injEq, V.str.injEq, List.cons.injEq, List.append_nil, List.cons_append, List.nil_append, exists_eq, exists_eq', exists_eq_left, exists_eq_left', exists_and_left, exists_and_right, and_assoc, true_and, and_true, ↓reduceIte]
    obtain ⟨as, h1, h2⟩ := G.ex
    refine ⟨_, .inl h1.1, ?_⟩
    rw [List.length_map, h2]
    refine ⟨by omega, by omega, fun d => ?_⟩
    rw [Int.toNat_natCast]
    refine comp_range (PvMR H rows t) ⟨rfl, rfl⟩ ?_ ?_ ?_
    · rintro i ys H' hi ⟨rfl, rfl⟩
      rw [List.length_map, List.length_map, List.length_range]
      exact Nat.le_trans hi (Nat.le_trans n8 (by decide))
    · rintro i ys H' hi ⟨rfl, rfl⟩
      simp only [runs1, List.length_cons, List.length_nil, Nat.zero_add, List.replicate_succ, List.replicate_zero, List.drop_succ_cons, List.drop_zero, Int.zero_add, List.getElem?_cons_zero, List.getElem?_cons_succ, List.set_cons_zero, List.set_cons_succ, Option.some.injEq, V.int.injEq, V.ref.injEq, V.bl.injEq, V.ty.injEq, V.str.injEq, List.cons.injEq, List.append_nil, List.cons_append, List.nil_append, exists_eq, exists_eq', exists_eq_left, exists_eq_left', exists_and_left, exists_and_right, and_assoc, true_and, and_true, ↓reduceIte]
      refine spTurn_of G ht hi ?_
      simp only [runs1, List.length_cons, List.length_nil, Nat.zero_add, List.replicate_succ, List.replicate_zero, List.drop_succ_cons, List.drop_zero, Int.zero_add, List.getElem?_cons_zero, List.getElem?_cons_succ, List.set_cons_zero, List.set_cons_succ, Option.some.injEq, V.int.injEq, V.ref.injEq, V.bl.injEq, V.ty.injEq, V.str.injEq, List.cons.injEq, List.append_nil, List.cons_append, List.nil_append, exists_eq, exists_eq', exists_eq_left, exists_eq_left', exists_and_left, exists_and_right, and_assoc, true_and, and_true, ↓reduceIte]
      refine ⟨rfl, ?_⟩
      rw [List.range_succ, List.map_append, List.map_append]
      rfl
    · rintro ys H' ⟨rfl, rfl⟩ l hl
      exact q l hl
theorem f_mirrored (B : Bt mg) (f_mirrored_row : FnAt P w K mg base "mirrored_row" 2 ["grid", "t"] (spMirRow K)) (D : DefIn K mg "mirrored" s_mirrored ["grid"]) : FnAt P w K mg base "mirrored" 3 ["grid"] (spMir K) := by
  refine FnAt.of D sc_mirrored (fun vs H Q E h => ?_) (fun f cdv A outer s H vs Q E hr h => ?_)
  · obtain ⟨g, rows, n, rfl, _⟩ := h
    rfl
  · obtain ⟨g, rows, n, rfl, G, q⟩ := h
    have n8 := G.n8
    refine ⟨_, (@pss_one _ _ _ (@ps_ret _ _ _ _ (pe_comp ["t"] ["grid"] rfl (pi_range1 rfl B.range (pa_cons (pe_callB call_len_seq rfl B.len bt_len (pa_cons (pv 0) (@pa_nil _))) (@pa_nil _))) (fun _ => (pg_name (i := 0) (show (["t", "grid"] : List Str).Nodup by decide +kernel) rfl (Or.inl rfl))) (fun _ => (@pts_nil _)) (fun _ => (pe_callA f_mirrored_row (hr.mono (by decide)) rfl (pa_cons (pv 1) (pa_cons (pv 0) (@pa_nil _))))) rfl (by decide +kernel) rfl rfl))), ?_⟩
    rw [show start ["grid"] [V.ref g] = [some (V.ref g)] from rfl]
    simp only [runs1, List.length_cons, List.length_nil, Nat.zero_add, List.replicate_succ, List.replicate_zero, List.drop_succ_cons, List.drop_zero, Int.zero_add, List.getElem?_cons_zero, List.getElem?_cons_succ, List.set_cons_zero, List.set_cons_succ, Option.some.injEq, V.int.injEq, V.ref.injEq, V.bl.injEq, V.ty.injEq, V.str.injEq, List.cons.injEq, List.append_nil, List.cons_append, List.nil_append, exists_eq, exists_eq', exists_eq_left, exists_eq_left', exists_and_left, exists_and_right, and_assoc, true_and, and_true, ↓reduceIte]
    obtain ⟨as, h1, h2⟩ := G.ex
    refine ⟨_, .inl h1.1, ?_⟩
    rw [List.length_map, h2]
    refine ⟨by omega, by omega, fun d => ?_⟩
    rw [Int.toNat_natCast]
    refine comp_range (PvMG H (mirA rows n)) ⟨[], rfl, Same.refl _, rfl, fun j c ns e => by simp at e⟩ ?_ ?_ ?_
    · rintro i ys H' hi ⟨cs, rfl, C⟩
      rw [List.length_map, C.len]
      exact Nat.le_trans hi (Nat.le_trans n8 (by decide))
    · rintro i ys H' hi ⟨cs, rfl, C⟩
      simp only [runs1, List.length_cons, List.length_nil, Nat.zero_add, List.replicate_succ, List.replicate_zero, List.drop_succ_cons, List.drop_zero, Int.zero_add, List.getElem?_cons_zero, List.getElem?_cons_succ, List.set_cons_zero, List.set_cons_succ, Option.some.injEq, V.int.injEq, V.ref.injEq, V.bl.injEq, V.ty.injEq, V.str.injEq, List.cons.injEq, List.append_nil, List.cons_append, List.nil_append, exists_eq, exists_eq', exists_eq_left, exists_eq_left', exists_and_left, exists_and_right, and_assoc, true_and, and_true, ↓reduceIte]
      refine ⟨g, rows, n, i, rfl, G.mono C.same, hi, fun l hl => ⟨cs ++ [l], by simp, C.snoc hl ?_⟩⟩
      unfold mirA
      rw [List.getElem?_map, List.getElem?_range hi]; rfl
    · rintro ys H' ⟨cs, rfl, C⟩ l hl
      have S3 : Same H (upd H' l (.lst (cs.map V.ref))) := Same.upd C.same (C.same.free hl)
      have lm : (mirA rows n).length = n := by unfold mirA; rw [List.length_map, List.length_range]
      refine q _ l S3 ⟨⟨cs, ⟨.of upd_same, C.len.trans lm.symm, fun i r ns e1 e2 => .of ?_⟩, C.len⟩, fun i hi => ?_, n8⟩
      · have q := C.row i r ns e1 e2
        rw [upd_ne (ne_of_none q hl)]; exact q
      · refine ⟨mirRow rows n i, ?_, by unfold mirRow; rw [List.length_map, List.length_range]⟩
        unfold mirA
        rw [List.getElem?_map, List.getElem?_range hi]; rfl
theorem f_least (B : Bt mg) (C : Ct K mg a) (f_refuse_ring : FnAtX P w K mg base "refuse_ring" 6 ["grid"] (spRefuse a K)) (f_least_roads : FnAt P w K mg base "least_roads" 5 ["grid", "walks"] (spRoads K)) (f_mirrored : FnAt P w K mg base "mirrored" 3 ["grid"] (spMir K)) (f_total_of : FnAt P w K mg base "total_of" 1 ["walk"] spTotal) (f_words_of : FnAt P w K mg base "words_of" 1 ["walk"] spWordsOf)
    (D : DefIn K mg "least" s_least ["grid"]) : FnAtX P w K mg base "least" 7 ["grid"] (spLeastP a K) := by
  refine FnAtX.of D sc_least (fun vs H Q E h => ?_) (fun f cdv A outer s H vs Q E hr h => ?_)
  · obtain ⟨g, rows, n, rfl, _⟩ := h
    rfl
  · obtain ⟨g, rows, n, rfl, G, hn, q0, q1⟩ := h
    have n8 := G.n8
    refine ⟨_, (@pss_cons _ _ _ _ _ (ps_expr (pe_callX f_refuse_ring (hr.mono (by decide)) (takes_body rfl) rfl (pa_cons (pv 0) (@pa_nil _)))) (@pss_cons _ _ _ _ _ (PS.nox (ps_set (i := 1) sc_least.nd rfl (Or.inl rfl) (pe_callA f_least_roads (hr.mono (by decide)) rfl (pa_cons (pe_callA f_mirrored (hr.mono (by decide)) rfl (pa_cons (pv 0) (@pa_nil _))) (pa_cons (pe_comp ["t"] ["grid", "walks"] rfl (pi_range1 rfl B.range (pa_cons (pe_callB call_len_seq rfl B.len bt_len (pa_cons (pv 0) (@pa_nil _))) (@pa_nil _))) (fun _ => (pg_name (i := 0) (show (["t", "grid", "walks"] : List Str).Nodup by decide +kernel) rfl (Or.inl rfl))) (fun _ => (@pts_nil _)) (fun _ => (@pe_tup _ _ _ _ _ (@pa_cons _ _ _ _ _ (@pe_int _ _ _ _) (@pa_cons _ _ _ _ _ (@pe_lst _ _ _ _ (@pa_cons _ _ _ _ _ (pv 0) (@pa_nil _) (star_of nofun))) (@pa_nil _) (star_of nofun)) (star_of nofun)))) rfl (by decide +kernel) rfl rfl) (@pa_nil _)))))) (@pss_one _ _ _ (PS.nox (@ps_ret _ _ _ _ (@pe_tup _ _ _ _ _ (pa_cons (pe_comp ["walk"] ["grid", "walks"] rfl (@pi_list _ _ _ _ (pv 1)) (fun _ => (pg_name (i := 0) (show (["walk", "grid", "walks"] : List Str).Nodup by decide +kernel) rfl (Or.inl rfl))) (fun _ => (@pts_nil _)) (fun _ => (@pe_un _ _ _ _ _ _ un_neg (pe_callA f_total_of (hr.mono (by decide)) rfl (pa_cons (pv 0) (@pa_nil _))))) rfl (by decide +kernel) rfl rfl) (pa_cons (pe_comp ["walk"] ["grid", "walks"] rfl (@pi_list _ _ _ _ (pv 1)) (fun _ => (pg_name (i := 0) (show (["walk", "grid", "walks"] : List Str).Nodup by decide +kernel) rfl (Or.inl rfl))) (fun _ => (@pts_nil _)) (fun _ => (pe_listRev rfl rfl B.list rfl B.reversed (pa_cons (pe_callA f_words_of (hr.mono (by decide)) rfl (pa_cons (pv 0) (@pa_nil _))) (@pa_nil _)))) rfl (by decide +kernel) rfl rfl) (@pa_nil _))))))))), ?_⟩
    rw [show start ["grid", "walks"] [V.ref g] = [some (V.ref g), none] from rfl]
    simp only [runs1, List.length_cons, List.length_nil, Nat.zero_add, List.replicate_succ, List.replicate_zero, List.drop_succ_cons, List.drop_zero, Int.zero_add, List.getElem?_cons_zero, List.getElem?_cons_succ, List.set_cons_zero, List.set_cons_succ, Option.some.injEq, V.int.injEq, V.ref.injEq, V.bl.injEq, V.ty.injEq, V.str.injEq, List.cons.injEq, List.append_nil, List.cons_append, List.nil_append, exists_eq, exists_eq', exists_eq_left, exists_eq_left', exists_and_left, exists_and_right, and_assoc, true_and, and_true, ↓reduceIte]
    refine ⟨g, rows, n, rfl, G, hn, fun H0 S0 no => ?_, fun H1 c S1 R => q1 H1 c S1 R⟩
    have no' := NoNeg.all no
    simp only [runs1, List.length_cons, List.length_nil, Nat.zero_add, List.replicate_succ, List.replicate_zero, List.drop_succ_cons, List.drop_zero, Int.zero_add, List.getElem?_cons_zero, List.getElem?_cons_succ, List.set_cons_zero, List.set_cons_succ, Option.some.injEq, V.int.injEq, V.ref.injEq, V.bl.injEq, V.ty.injEq, V.str.injEq, List.cons.injEq, List.append_nil, List.cons_append, List.nil_append, exists_eq, exists_eq', exists_eq_left, exists_eq_left', exists_and_left, exists_and_right, and_assoc, true_and, and_true, ↓reduceIte]
    refine ⟨g, rows, n, rfl, G.mono S0, fun H1 g' S1 G' => ?_⟩
    simp only [runs1, List.length_cons, List.length_nil, Nat.zero_add, List.replicate_succ, List.replicate_zero, List.drop_succ_cons, List.drop_zero, Int.zero_add, List.getElem?_cons_zero, List.getElem?_cons_succ, List.set_cons_zero, List.set_cons_succ, Option.some.injEq, V.int.injEq, V.ref.injEq, V.bl.injEq, V.ty.injEq, V.str.injEq, List.cons.injEq, List.append_nil, List.cons_append, List.nil_append, exists_eq, exists_eq', exists_eq_left, exists_eq_left', exists_and_left, exists_and_right, and_assoc, true_and, and_true, ↓reduceIte]
    obtain ⟨as, h1, h2⟩ := (G.mono (S0.trans S1)).ex
    refine ⟨_, .inl h1.1, ?_⟩
    rw [List.length_map, h2]
    refine ⟨by omega, by omega, fun d => ?_⟩
    rw [Int.toNat_natCast]
    refine comp_range (PvOne H1 fun t => 0) ⟨Same.refl _, [], WsL.nil, rfl, Dis.nil, fun t ht => by omega⟩ ?_ ?_ ?_
    · rintro i ys H2 hi ⟨S2, gs, W2, lg, _⟩
      rw [W2.len, lg]
      exact Nat.le_trans hi (Nat.le_trans n8 (by decide))
    · rintro i ys H2 hi ⟨S2, gs, W2, lg, hd, hf⟩
      simp only [runs1, List.length_cons, List.length_nil, Nat.zero_add, List.replicate_succ, List.replicate_zero, List.drop_succ_cons, List.drop_zero, Int.zero_add, List.getElem?_cons_zero, List.getElem?_cons_succ, List.set_cons_zero, List.set_cons_succ, Option.some.injEq, V.int.injEq, V.ref.injEq, V.bl.injEq, V.ty.injEq, V.str.injEq, List.cons.injEq, List.append_nil, List.cons_append, List.nil_append, exists_eq, exists_eq', exists_eq_left, exists_eq_left', exists_and_left, exists_and_right, and_assoc, true_and, and_true, ↓reduceIte]
      refine ⟨by show 1 ≤ sizeLine; decide, fun l hl => ⟨by show 2 ≤ sizeLine; decide, fun p hp => ?_⟩⟩
      have S3 : Same H2 (upd H2 l (.lst [V.int i])) := Same.upd (Same.refl _) hl
      have hl3 : upd H2 l (.lst [V.int i]) l = some (.lst ((nI [i]).map V.int)) := upd_same
      generalize upd H2 l (.lst [V.int i]) = H3 at *
      have S4 : Same H3 (upd H3 p (.tup [V.int 0, V.ref l])) := Same.upd (Same.refl _) hp
      have hp4 : upd H3 p (.tup [V.int 0, V.ref l]) p = some (.tup [V.int 0, V.ref l]) := upd_same
      generalize upd H3 p (.tup [V.int 0, V.ref l]) = H4 at *
      refine ⟨S2.trans (S3.trans S4), gs ++ [(0, [i], l)], W2.snoc (S3.trans S4) hp4 (S4 _ _ hl3), by simp [lg], hd.snoc W2 hl, fun t ht => ?_⟩
      by_cases e : t < i
      · rw [← hf t e]
        unfold fOf
        rw [List.getD_eq_getElem?_getD, List.getElem?_append_left (by omega), ← List.getD_eq_getElem?_getD]
      · have : t = i := by omega
        subst this
        rw [fOf_at (e := (0, [t], l)) (by rw [List.getElem?_append_right (by omega), lg]; simp)]
    · rintro ys H2 ⟨S2, gs, W2, lg, hd, hf⟩ l hl
      have S3 : Same H2 (upd H2 l (.lst ys)) := Same.upd (Same.refl _) hl
      have hl3 : upd H2 l (.lst ys) l = some (.lst ys) := upd_same
      generalize upd H2 l (.lst ys) = H3 at *
      have S13 := S2.trans S3
      refine ⟨g', l, mirA rows n, ys, gs, n, 0, _, _, rfl, G'.mono S13, hn, mir_no no', hl3, W2.mono S3, lg, hd, Rds.one hf, by omega, fun H4 r4 zs hs S4 hr4 W4 Td => ?_⟩
      have lz := W4.len
      have lh := Td.len
      simp only [runs1, List.length_cons, List.length_nil, Nat.zero_add, List.replicate_succ, List.replicate_zero, List.drop_succ_cons, List.drop_zero, Int.zero_add, List.getElem?_cons_zero, List.getElem?_cons_succ, List.set_cons_zero, List.set_cons_succ, Option.some.injEq, V.int.injEq, V.ref.injEq, V.bl.injEq, V.ty.injEq, V.str.injEq, List.cons.injEq, List.append_nil, List.cons_append, List.nil_append, exists_eq, exists_eq', exists_eq_left, exists_eq_left', exists_and_left, exists_and_right, and_assoc, true_and, and_true, ↓reduceIte]
      refine ⟨⟨_, .of hr4⟩, fun d2 => ?_⟩
      refine comp_list (xs := zs) (PvNeg H4 hs) ⟨rfl, rfl⟩ ?_ ?_ ?_
      · rintro i ys5 H5 hi ⟨rfl, rfl⟩
        refine ⟨?_, .of hr4⟩
        rw [List.length_map, List.length_map, List.length_take]
        exact Nat.le_trans (Nat.min_le_right _ _) (Nat.le_trans (show hs.length ≤ 8 by omega) (by decide))
      · rintro i x ys5 H5 hx ⟨rfl, rfl⟩
        obtain ⟨e, he⟩ := get_ex (xs := hs) (t := i) (by have := get_lt hx; omega)
        obtain ⟨p, a1, a2, a3⟩ := W4.at' i e he
        rw [hx] at a1
        cases a1
        simp only [runs1, List.length_cons, List.length_nil, Nat.zero_add, List.replicate_succ, List.replicate_zero, List.drop_succ_cons, List.drop_zero, Int.zero_add, List.getElem?_cons_zero, List.getElem?_cons_succ, List.set_cons_zero, List.set_cons_succ, Option.some.injEq, V.int.injEq, V.ref.injEq, V.bl.injEq, V.ty.injEq, V.str.injEq, List.cons.injEq, List.append_nil, List.cons_append, List.nil_append, exists_eq, exists_eq', exists_eq_left, exists_eq_left', exists_and_left, exists_and_right, and_assoc, true_and, and_true, ↓reduceIte]
        refine ⟨p, _, _, rfl, a2, _, rfl, rfl, ?_⟩
        rw [List.take_add_one, he]
        simp
      · rintro ys5 H5 ⟨rfl, rfl⟩ pl hpl
        rw [lz, List.take_length]
        have S6 : Same H5 (upd H5 pl (.lst ((hs.map fun e => -e.1).map V.int))) := Same.upd (Same.refl _) hpl
        have hp6 : upd H5 pl (.lst ((hs.map fun e => -e.1).map V.int)) pl = some (.lst ((hs.map fun e => -e.1).map V.int)) := upd_same
        generalize upd H5 pl (.lst ((hs.map fun e => -e.1).map V.int)) = H6 at *
        refine ⟨⟨_, S6.seq (.of hr4)⟩, fun d3 => ?_⟩
        refine comp_list (xs := zs) (PvRev H6 hs) ⟨Same.refl _, [], rfl, rfl, Dis.nil, fun t e he => by simp at he⟩ ?_ ?_ ?_
        · rintro i ys5 H7 hi ⟨S7, ks, lk, rfl, _⟩
          refine ⟨?_, (S6.trans S7).seq (.of hr4)⟩
          rw [List.length_map, lk]
          exact Nat.le_trans hi (Nat.le_trans (show zs.length ≤ 8 by omega) (by decide))
        · rintro i x ys5 H7 hx ⟨S7, ks, lk, rfl, hdk, hks⟩
          obtain ⟨e, he⟩ := get_ex (xs := hs) (t := i) (by have := get_lt hx; omega)
          obtain ⟨p, a1, a2, a3⟩ := W4.at' i e he
          rw [hx] at a1
          cases a1
          simp only [runs1, List.length_cons, List.length_nil, Nat.zero_add, List.replicate_succ, List.replicate_zero, List.drop_succ_cons, List.drop_zero, Int.zero_add, List.getElem?_cons_zero, List.getElem?_cons_succ, List.set_cons_zero, List.set_cons_succ, Option.some.injEq, V.int.injEq, V.ref.injEq, V.bl.injEq, V.ty.injEq, V.str.injEq, List.cons.injEq, List.append_nil, List.cons_append, List.nil_append, exists_eq, exists_eq', exists_eq_left, exists_eq_left', exists_and_left, exists_and_right, and_assoc, true_and, and_true, ↓reduceIte]
          have S67 := S6.trans S7
          refine ⟨p, _, _, rfl, S67 _ _ a2, _, rfl, _, .of (S67 _ _ a3), fun l hl => ?_⟩
          rw [nI_rev]
          have S8 : Same H7 (upd H7 l (.lst ((nI e.2.1.reverse).map V.int))) := Same.upd (Same.refl _) hl
          refine ⟨S7.trans S8, ks ++ [(-e.1, e.2.1.reverse, l)], by simp [lk], by simp, ?_, fun t e' he' => ?_⟩
          · have old : ∀ (t : Nat) e, ks[t]? = some e → e.2.2 ≠ l := fun t e he z => by
              have := (hks t e he).1
              rw [z, hl] at this
              cases this
            intro t u e1 e2 h1 h2 ee
            rcases get_snoc h1 with z | ⟨z, rfl⟩ <;> rcases get_snoc h2 with z' | ⟨z', rfl⟩
            · exact hdk t u _ _ z z' ee
            · exact absurd ee (old t _ z)
            · exact absurd ee.symm (old u _ z')
            · rw [z, z']
          · rcases get_snoc he' with z | ⟨z, rfl⟩
            · exact ⟨S8 _ _ (hks t e' z).1, (hks t e' z).2⟩
            · rw [z, lk]
              exact ⟨upd_same, e, he, rfl, rfl⟩
        · rintro ys7 H7 ⟨S7, ks, lk, rfl, hdk, hks⟩ rl hrl
          have lk' : ks.length = n := by omega
          have S8 : Same H7 (upd H7 rl (.lst (ks.map fun e => V.ref e.2.2))) := Same.upd (Same.refl _) hrl
          have hr8 : upd H7 rl (.lst (ks.map fun e => V.ref e.2.2)) rl = some (.lst (ks.map fun e => V.ref e.2.2)) := upd_same
          generalize upd H7 rl (.lst (ks.map fun e => V.ref e.2.2)) = H8 at *
          refine ⟨by show 2 ≤ sizeLine; decide, fun tp htp => ?_⟩
          have S9 : Same H8 (upd H8 tp (.tup [V.ref pl, V.ref rl])) := Same.upd (Same.refl _) htp
          have ht9 : upd H8 tp (.tup [V.ref pl, V.ref rl]) tp = some (.tup [V.ref pl, V.ref rl]) := upd_same
          generalize upd H8 tp (.tup [V.ref pl, V.ref rl]) = H9 at *
          have S79 := S8.trans S9
          have epays : (hs.map fun e => -e.1) = ks.map fun e => e.1 := by
            refine List.ext_getElem (by simp; omega) fun i x1 x2 => ?_
            rw [List.getElem_map, List.getElem_map]
            have hi2 : i < ks.length := by simpa using x2
            obtain ⟨d, hd1, hd2, _⟩ := (hks i ks[i] (by simp [hi2])).2
            rw [(List.getElem?_eq_some_iff.mp hd1).2, hd2]
          rw [epays] at hp6
          have hfk : ∀ t, t < n → (fOf ks t).1 = -(fOf hs t).1 := fun t ht => by
            obtain ⟨e, he⟩ := get_ex (xs := ks) (t := t) (by omega)
            obtain ⟨d, hd1, hd2, _⟩ := (hks t e he).2
            rw [fOf_at he, fOf_at hd1]
            exact hd2
          refine q0 H9 _ ks (S0.trans (S1.trans (S13.trans (S4.trans (S6.trans (S7.trans S79)))))) ⟨⟨tp, pl, rl, rfl, ht9, (S7.trans S79) _ _ hp6, S9 _ _ hr8⟩, fun e he => ?_⟩ ⟨lk', hdk, no', fun t s ht hs' => ?_, fun t ht => ?_, fun t e he => ?_⟩
          · obtain ⟨t, ht, rfl⟩ := List.getElem_of_mem he
            exact S79 _ _ (hks t ks[t] (by simp [ht])).1
          · rw [pays_at (by omega), pays_at (by omega), hfk t ht, hfk s hs']
            have := Td.rds.honest (mir_no no') (by omega) (s := t) (t := s) ht hs'
            rw [mir_turn hs' ht] at this
            have h3 : turnA rows s t = cellA rows t t - cellA rows t s := rfl
            omega
          · rw [hfk t ht]
            have := Td.le t ht
            rw [hf t ht] at this
            have h3 : (fOf hs t).1 ≤ 0 := this
            omega
          · have ht : t < n := by have := get_lt he; omega
            obtain ⟨d, hd1, hd2, hd3⟩ := (hks t e he).2
            obtain ⟨s0, ws, f1, _, f3, f4, f5, f6, f7, f8⟩ := (Td.rds.rd t ht).ex
            rw [fOf_at hd1] at f1 f6
            obtain ⟨rs, e1, e2, e3, e4⟩ := rev_wk (rows := rows) ws s0 f3 f5
            have f1' : d.2.1 = s0 :: ws := f1
            have f6' : d.1 = 0 + wk (turnA (mirA rows n)) s0 ws := f6
            rw [f4] at e1 e4
            refine ⟨rs, by rw [hd3, f1', e1], ?_, fun x hx => ?_, by rw [hd2, f6', ← e4, wk_A]; omega⟩
            · rw [← e1]; exact List.pairwise_reverse.mpr (f7.imp fun h => Ne.symm h)
            · rcases List.mem_cons.mp (rev_mem e1 hx) with z | z
              · rw [z]; exact f3
              · exact f5 x z
end

def PrOk (ms : List Int) (i : Nat) (own : Int) (s : Nat) (x : Int) : Prop := x ≤ own - ms.getD i 0 + ms.getD s 0 ∧ (s = i → x = own)
theorem pr_snoc {P : Nat → Int → Prop} {ls : List Int} {j : Nat} {x : Int} (hl : ls.length = j) (h : ∀ s, s < j → P s (ls.getD s 0)) (hx : P j x) : ∀ s, s < j + 1 → P s ((ls ++ [x]).getD s 0) := fun s hs => by
  by_cases e : s < j
  · rw [List.getD_eq_getElem?_getD, List.getElem?_append_left (by omega), ← List.getD_eq_getElem?_getD]
    exact h s e
  · have : s = j := by omega
    subst this
    rw [List.getD_eq_getElem?_getD, List.getElem?_append_right (by omega), hl]
    simpa using hx
def RowsOk (ms : List Int) (n : Nat) (rows : List (List Int)) (i : Nat) : Prop := ∀ t, t < i → ∃ own, ∀ s, s < n → PrOk ms t own s (cellA rows t s)
theorem RowsOk.snoc {ms : List Int} {n i : Nat} {rows : List (List Int)} {ls : List Int} {own : Int} (h : RowsOk ms n rows i) (hl : rows.length = i) (hr : ∀ s, s < n → PrOk ms i own s (ls.getD s 0)) : RowsOk ms n (rows ++ [ls]) (i + 1) := fun t ht => by
  by_cases e : t < i
  · obtain ⟨o, ho⟩ := h t e
    refine ⟨o, fun s hs => ?_⟩
    have e3 : (rows ++ [ls]).getD t [] = rows.getD t [] := by rw [List.getD_eq_getElem?_getD, List.getElem?_append_left (by omega), ← List.getD_eq_getElem?_getD]
    have e4 : cellA (rows ++ [ls]) t s = cellA rows t s := by unfold cellA; rw [e3]
    rw [e4]
    exact ho s hs
  · have : t = i := by omega
    subst this
    refine ⟨own, fun s hs => ?_⟩
    have e3 : (rows ++ [ls]).getD t [] = ls := by rw [List.getD_eq_getElem?_getD, List.getElem?_append_right (by omega), hl]; simp
    have e4 : cellA (rows ++ [ls]) t s = ls.getD s 0 := by unfold cellA; rw [e3]
    rw [e4]
    exact hr s hs
theorem RowsOk.hon {ms : List Int} {n : Nat} {rows : List (List Int)} (h : RowsOk ms n rows n) : Hon rows ms n := fun t s ht hs => by
  obtain ⟨own, ho⟩ := h t ht
  have h1 := (ho s hs).1
  have h2 := (ho t ht).2 rfl
  rw [h2]
  omega
def spMade (K : PySem.W.Frag) : Sp := fun vs H Q _ => ∃ (a : Addr) (ns : List Int) (n : Nat), vs = [.ref a, .int n] ∧ SqL K H a (ns.map V.int) ∧ n ≤ 8 ∧ ∀ (b : Addr) (bs : List Addr) (rows : List (List Int)) (ms : List Int) (H' : Hp), NewGrid H H' b bs rows n n → Hon rows ms n → Q (.ref b) H'
def PvOut2 (H : Hp) (a b g : Addr) (ms : List Int) (n i : Nat) (σ : L2.St) (H2 : Hp) : Prop := ∃ bs rows v4 v5 v6 v7 v8 v9 v10, σ = [some (.ref a), some (.int n), some (.ref b), some (.ref g), v4, v5, v6, v7, v8, v9, v10] ∧ NewGrid H H2 g bs rows i n ∧ RowsOk ms n rows i
def PvIn2 (H : Hp) (a b g r : Addr) (ms : List Int) (n i : Nat) (own : Int) (bs : List Addr) (rows : List (List Int)) (j : Nat) (σ : L2.St) (H3 : Hp) : Prop :=
  ∃ (ls : List Int) (v5 v8 v9 v10 : Option V), σ = [some (.ref a), some (.int n), some (.ref b), some (.ref g), some (.int i), v5, some (.int own), some (.ref r), v8, v9, v10] ∧ ls.length = j ∧ H3 r = some (.lst (ls.map V.int)) ∧ NewGrid H H3 g bs rows i n ∧ ∀ s, s < j → PrOk ms i own s (ls.getD s 0)
section
variable {P : Program} {w : World} {K : PySem.W.Frag} {mg : Str → Option Value} {base : Heap}
set_option maxHeartbeats 4000000
theorem f_law_priced (B : Bt mg) (f_law_cell : FnAt P w K mg base "_law_cell" 1 ["script", "k"] (spCell K)) (f_law_number : FnAt P w K mg base "_law_number" 1 ["cell", "top"] spNumber) (f_law_pays : FnAt P w K mg base "_law_pays" 2 ["script", "many"] (spPays K))
    (D : DefIn K mg "_law_priced" s_law_priced ["script", "many"]) : FnAt P w K mg base "_law_priced" 3 ["script", "many"] (spMade K) := by
  refine FnAt.of D sc_law_priced (fun vs H Q E h => ?_) (fun f cdv A outer s H vs Q E hr h => ?_)
  · obtain ⟨a, ns, n, rfl, _⟩ := h
    rfl
  · obtain ⟨a, ns, n, rfl, hS, hn, q⟩ := h
    refine ⟨_, (@pss_cons _ _ _ _ _ (ps_set (i := 2) sc_law_priced.nd rfl (Or.inl rfl) (pe_callA f_law_pays (hr.mono (by decide)) rfl (pa_cons (pv 0) (pa_cons (pv 1) (@pa_nil _))))) (@pss_cons _ _ _ _ _ (ps_set (i := 3) sc_law_priced.nd rfl (Or.inl rfl) (@pe_lst _ _ _ _ (@pa_nil _))) (@pss_cons _ _ _ _ _ (ps_for PassesOwn.never rfl (pi_range1 rfl B.range (pa_cons (pv 1) (@pa_nil _))) (pg_name (i := 4) sc_law_priced.nd rfl (Or.inl rfl)) (@pss_cons _ _ _ _ _ (ps_set (i := 5) sc_law_priced.nd rfl (Or.inl rfl) (pe_callA f_law_cell (hr.mono (by decide)) rfl (pa_cons (pv 0) (pa_cons (@pe_op _ _ _ _ _ _ _ _ op_add (@pe_op _ _ _ _ _ _ _ _ op_add (@pe_int _ _ _ _) (@pe_op _ _ _ _ _ _ _ _ op_mul (pv 4) (pv 1))) (pv 4)) (@pa_nil _))))) (@pss_cons _ _ _ _ _ (ps_set (i := 6) sc_law_priced.nd rfl (Or.inl rfl) (pe_callA f_law_number (hr.mono (by decide)) rfl (pa_cons (pv 5) (pa_cons (@pe_op _ _ _ _ _ _ _ _ op_pow (@pe_int _ _ _ _) (@pe_int _ _ _ _)) (@pa_nil _))))) (@pss_cons _ _ _ _ _ (ps_set (i := 7) sc_law_priced.nd rfl (Or.inl rfl) (@pe_lst _ _ _ _ (@pa_nil _))) (@pss_cons _ _ _ _ _ (ps_for PassesOwn.never rfl (pi_range1 rfl B.range (pa_cons (pv 1) (@pa_nil _))) (pg_name (i := 8) sc_law_priced.nd rfl (Or.inl rfl)) (@pss_cons _ _ _ _ _ (ps_set (i := 5) sc_law_priced.nd rfl (Or.inl rfl) (pe_callA f_law_cell (hr.mono (by decide)) rfl (pa_cons (pv 0) (pa_cons (@pe_op _ _ _ _ _ _ _ _ op_add (@pe_op _ _ _ _ _ _ _ _ op_add (@pe_int _ _ _ _) (@pe_op _ _ _ _ _ _ _ _ op_mul (pv 4) (pv 1))) (pv 8)) (@pa_nil _))))) (@pss_cons _ _ _ _ _ (ps_set (i := 9) sc_law_priced.nd rfl (Or.inl rfl) (pe_callB (call_max2 rfl) rfl B.max bt_max (pa_cons (@pe_int _ _ _ _) (pa_cons (pe_callA f_law_number (hr.mono (by decide)) rfl (pa_cons (pv 5) (pa_cons (@pe_op _ _ _ _ _ _ _ _ op_pow (@pe_int _ _ _ _) (@pe_int _ _ _ _)) (@pa_nil _)))) (@pa_nil _))))) (@pss_cons _ _ _ _ _ (ps_set (i := 10) sc_law_priced.nd rfl (Or.inl rfl) (@pe_op _ _ _ _ _ _ _ _ op_add (@pe_op _ _ _ _ _ _ _ _ op_sub (pv 6) (@pe_ix _ _ _ _ _ _ _ ix_list (pv 2) (pv 4) (fun _ _ => rfl))) (@pe_ix _ _ _ _ _ _ _ ix_list (pv 2) (pv 8) (fun _ _ => rfl)))) (@pss_one _ _ _ (ps_expr (pe_bm PySem.F.plainAttrs_list PySem.F.slot_list_append PySem.F.type_list_append mt_append (pv 7) (pa_cons (@pe_op _ _ _ _ _ _ _ _ op_sub (pv 10) (@pe_op _ _ _ _ _ _ _ _ op_mul (pv 9) (pe_callTy call_int1 rfl B.int bt_int (pa_cons (@pe_cmpR _ _ _ _ _ _ _ _ op_ne (pv 8) (pv 4) (nomark _)) (@pa_nil _))))) (@pa_nil _))))))))) (@pss_one _ _ _ (ps_expr (pe_bm PySem.F.plainAttrs_list PySem.F.slot_list_append PySem.F.type_list_append mt_append (pv 3) (pa_cons (pv 7) (@pa_nil _)))))))))) (@pss_one _ _ _ (@ps_ret _ _ _ _ (pv 3)))))), ?_⟩
    rw [show start ["script", "many", "pays", "grid", "t", "cell", "own", "row", "s", "slack", "told"] [V.ref a, V.int n] = [some (V.ref a), some (V.int n), none, none, none, none, none, none, none, none, none] from rfl]
    simp only [runs1, List.length_cons, List.length_nil, Nat.zero_add, List.replicate_succ, List.replicate_zero, List.drop_succ_cons, List.drop_zero, Int.zero_add, List.getElem?_cons_zero, List.getElem?_cons_succ, List.set_cons_zero, List.set_cons_succ, Option.some.injEq, V.int.injEq, V.ref.injEq, V.bl.injEq, V.ty.injEq, V.str.injEq, List.cons.injEq, List.append_nil, List.cons_append, List.nil_append, exists_eq, exists_eq', exists_eq_left, exists_eq_left', exists_and_left, exists_and_right, and_assoc, true_and, and_true, ↓reduceIte]
    refine ⟨a, ns, n, rfl, hS, hn, fun b ms hb hm => ⟨Nat.zero_le _, fun g hg => ⟨by omega, by omega, ?_⟩⟩⟩
    rw [Int.toNat_natCast]
    have hbg : b ≠ g := ne_of_none upd_same hg
    have s1 : Same H (upd H b (.lst (ms.map V.int))) := Same.upd (Same.refl H) hb
    refine for_range (PvOut2 (upd H b (.lst (ms.map V.int))) a b g ms n) ⟨[], [], _, _, _, _, _, _, _, rfl, NewGrid.nil (Same.refl _) hg, fun t ht => by omega⟩ ?_ ?_
    · rintro i σ H2 hi ⟨bs, rows, v4, v5, v6, v7, v8, v9, v10, rfl, G, ok⟩
      simp only [runs1, List.length_cons, List.length_nil, Nat.zero_add, List.replicate_succ, List.replicate_zero, List.drop_succ_cons, List.drop_zero, Int.zero_add, List.getElem?_cons_zero, List.getElem?_cons_succ, List.set_cons_zero, List.set_cons_succ, Option.some.injEq, V.int.injEq, V.ref.injEq, V.bl.injEq, V.ty.injEq, V.str.injEq, List.cons.injEq, List.append_nil, List.cons_append, List.nil_append, exists_eq, exists_eq', exists_eq_left, exists_eq_left', exists_and_left, exists_and_right, and_assoc, true_and, and_true, ↓reduceIte]
      have e0 : (0 : Int) ≤ (i : Int) * n := Int.mul_nonneg (by omega) (by omega)
      refine ⟨.inl ⟨by omega, by omega⟩, a, ns, _, rfl, (s1.trans G.same).seq hS, by omega, fun c1 => ⟨⟨by decide, by decide, by decide⟩, c1, _, rfl, by decide, fun own => ⟨Nat.zero_le _, fun r hr' => ⟨by omega, by omega, ?_⟩⟩⟩⟩
      rw [Int.toNat_natCast]
      have G1 := G.laid (o := .lst []) hr'
      have hgr : g ≠ r := ne_of_none G.at' hr'
      have hbr : b ≠ r := ne_of_none (G.same b _ upd_same) hr'
      have hnr : upd H b (.lst (ms.map V.int)) r = none := G.same.free hr'
      have hrb : r ∉ bs := not_row G hr'
      refine for_range (PvIn2 (upd H b (.lst (ms.map V.int))) a b g r ms n i own bs rows)
        ⟨[], _, _, _, _, rfl, rfl, upd_same, G1, fun s hs => by omega⟩ ?_ ?_
      · rintro j σ H3 hj ⟨ls, v5, v8, v9, v10, rfl, hl, hr3, G3, pr⟩
        simp only [runs1, List.length_cons, List.length_nil, Nat.zero_add, List.replicate_succ, List.replicate_zero, List.drop_succ_cons, List.drop_zero, Int.zero_add, List.getElem?_cons_zero, List.getElem?_cons_succ, List.set_cons_zero, List.set_cons_succ, Option.some.injEq, V.int.injEq, V.ref.injEq, V.bl.injEq, V.ty.injEq, V.str.injEq, List.cons.injEq, List.append_nil, List.cons_append, List.nil_append, exists_eq, exists_eq', exists_eq_left, exists_eq_left', exists_and_left, exists_and_right, and_assoc, true_and, and_true, ↓reduceIte]
        have hi' : i < ms.length := by omega
        have hj' : j < ms.length := by omega
        have hB : SqL K H3 b (ms.map V.int) := .of (G3.same b _ upd_same)
        refine ⟨.inl ⟨by omega, by omega⟩, a, ns, _, rfl, (s1.trans G3.same).seq hS, by omega, fun c2 => ⟨⟨by decide, by decide, by decide⟩, c2, _, rfl, by decide, fun v => ?_⟩⟩
        have q1 : atI (ms.map V.int) (i : Int) = some (.int ms[i]) := at_int (by simp [hi'])
        have q2 : atI (ms.map V.int) (j : Int) = some (.int ms[j]) := at_int (by simp [hj'])
        simp only [runs1, List.length_cons, List.length_nil, Nat.zero_add, List.replicate_succ, List.replicate_zero, List.drop_succ_cons, List.drop_zero, Int.zero_add, List.getElem?_cons_zero, List.getElem?_cons_succ, List.set_cons_zero, List.set_cons_succ, Option.some.injEq, V.int.injEq, V.ref.injEq, V.bl.injEq, V.ty.injEq, V.str.injEq, List.cons.injEq, List.append_nil, List.cons_append, List.nil_append, exists_eq, exists_eq', exists_eq_left, exists_eq_left', exists_and_left, exists_and_right, and_assoc, true_and, and_true, ↓reduceIte]
        refine ⟨_, hB, _, q1, _, rfl, _, hB, _, q2, _, rfl, .inl ⟨rfl, _, .of hr3⟩, rfl, .inr ⟨?_, _, hr3, ?_, ?_⟩⟩
        · right
          split
          · exact ⟨by decide, by decide⟩
          · exact ⟨by decide, by decide⟩
        · rw [List.length_map, hl]
          exact Nat.lt_of_lt_of_le hj (Nat.le_trans hn (by decide))
        · have e1 : ms.getD i 0 = ms[i] := by simp [List.getD_eq_getElem?_getD, hi']
          have e2 : ms.getD j 0 = ms[j] := by simp [List.getD_eq_getElem?_getD, hj']
          refine ⟨ls ++ [_], _, _, _, _, rfl, by simp [hl], by rw [upd_same, List.map_append]; rfl, G3.write hnr hrb (Ne.symm hgr), pr_snoc hl pr ⟨?_, fun ej => ?_⟩⟩
          · rw [e1, e2]
            split <;> split <;> omega
          · subst ej
            simp
      · rintro σ H3 ⟨ls, v5, v8, v9, v10, rfl, hl, hr3, G3, pr⟩
        simp only [runs1, List.length_cons, List.length_nil, Nat.zero_add, List.replicate_succ, List.replicate_zero, List.drop_succ_cons, List.drop_zero, Int.zero_add, List.getElem?_cons_zero, List.getElem?_cons_succ, List.set_cons_zero, List.set_cons_succ, Option.some.injEq, V.int.injEq, V.ref.injEq, V.bl.injEq, V.ty.injEq, V.str.injEq, List.cons.injEq, List.append_nil, List.cons_append, List.nil_append, exists_eq, exists_eq', exists_eq_left, exists_eq_left', exists_and_left, exists_and_right, and_assoc, true_and, and_true, ↓reduceIte]
        refine ⟨.inl ⟨rfl, _, .of G3.at'⟩, _, G3.at', ?_, bs ++ [r], rows ++ [ls], _, _, _, _, _, _, _, rfl, G3.snoc hnr hr3 hl hrb (Ne.symm hgr), ok.snoc G3.lr pr⟩
        rw [List.length_map, G3.lb]
        exact Nat.lt_of_lt_of_le hi (Nat.le_trans hn (by decide))
    · rintro σ H2 ⟨bs, rows, v4, v5, v6, v7, v8, v9, v10, rfl, G, ok⟩
      simp only [runs1, List.length_cons, List.length_nil, Nat.zero_add, List.replicate_succ, List.replicate_zero, List.drop_succ_cons, List.drop_zero, Int.zero_add, List.getElem?_cons_zero, List.getElem?_cons_succ, List.set_cons_zero, List.set_cons_succ, Option.some.injEq, V.int.injEq, V.ref.injEq, V.bl.injEq, V.ty.injEq, V.str.injEq, List.cons.injEq, List.append_nil, List.cons_append, List.nil_append, exists_eq, exists_eq', exists_eq_left, exists_eq_left', exists_and_left, exists_and_right, and_assoc, true_and, and_true, ↓reduceIte]
      exact q g bs rows ms H2 (NewGrid.trans s1 G) ok.hon
end

def spRefused (K : PySem.W.Frag) : Sp := fun vs H Q _ => ∃ (g : Addr) (rows : List (List Int)) (n : Nat) (way : Int), vs = [.int way, .ref g] ∧ Gd K H g rows n ∧ 0 < n ∧
  (∀ H' tp, Same H H' → (∀ k, NoNeg (turnA rows) n k) → SqT K H' tp [] → Q (.ref tp) H') ∧ ∀ H' tp c, Same H H' → RingA (turnA rows) n c → SqT K H' tp [.bl true, .bl true, .bl false] → Q (.ref tp) H'
def J16 (a : Ad) (H4 : Hp) (σ0 : L2.St) (rows : List (List Int)) (n : Nat) (σ : L2.St) (c : Value) (H' : Hp) : Prop := Same H4 H' ∧ σ = σ0 ∧ c = .ref a.NoPays ∧ ∃ c', RingA (turnA rows) n c'
def spRight (K : PySem.W.Frag) : Sp := fun vs H Q _ => ∃ (g : Addr) (rows : List (List Int)) (n : Nat), vs = [.ref g] ∧ Gd K H g rows n ∧ 0 < n ∧ ∀ H', Same H H' → Q (.bl true) H'
section
variable {P : Program} {w : World} {K : PySem.W.Frag} {mg : Str → Option Value} {base : Heap} {a : Ad}
set_option maxHeartbeats 8000000
theorem f_law_refused (B : Bt mg) (C : Ct K mg a) (f_greatest : FnAtX P w K mg base "greatest" 7 ["grid"] (spGreat a K)) (f_least : FnAtX P w K mg base "least" 7 ["grid"] (spLeastP a K)) (D : DefIn K mg "_law_refused" s_law_refused ["way", "grid"]) : FnAt P w K mg base "_law_refused" 8 ["way", "grid"] (spRefused K) := by
  refine FnAt.of D sc_law_refused (fun vs H Q E h => ?_) (fun f cdv A outer s H vs Q E hr h => ?_)
  · obtain ⟨g, rows, n, way, rfl, _⟩ := h
    rfl
  · obtain ⟨g, rows, n, way, rfl, G, hn, q0, q1⟩ := h
    refine ⟨_, (@pss_cons _ _ _ _ _ (ps_set (i := 2) sc_law_refused.nd rfl (Or.inl rfl) (@pe_tup _ _ _ _ _ (@pa_nil _))) (@pss_cons _ _ _ _ _ (ps_try_as (i := 3) C.q_TrueError.toErr rfl C.m_TrueError sc_law_refused.nd rfl rfl (fun J pn => (@pss_one _ _ _ (@ps_if _ _ _ _ _ _ _ _ (@pt_cmpR _ _ _ _ _ _ _ _ op_eq (pv 0) (@pe_int _ _ _ _) (nomark _)) (@pss_one _ _ _ (ps_expr (pe_callX f_greatest (hr.mono (by decide)) takes_try rfl (pa_cons (pv 1) (@pa_nil _))))) (@pss_one _ _ _ (ps_expr (pe_callX f_least (hr.mono (by decide)) takes_try rfl (pa_cons (pv 1) (@pa_nil _)))))))) (fun e => (@pss_cons _ _ _ _ _ (ps_set (i := 4) sc_law_refused.nd rfl (Or.inl rfl) (pe_callB call_isinstEs rfl B.isinstance bt_isinstance (@pa_cons _ _ _ _ _ (pv 3) (@pa_cons _ _ _ _ _ (@pe_tup _ _ _ _ _ (@pa_cons _ _ _ _ _ (pe_glob (v := .ref a.NoHouse) rfl C.m_NoHouse rfl) (@pa_cons _ _ _ _ _ (pe_glob (v := .ref a.NoMenu) rfl C.m_NoMenu rfl) (@pa_cons _ _ _ _ _ (pe_glob (v := .ref a.NoRow) rfl C.m_NoRow rfl) (@pa_cons _ _ _ _ _ (pe_glob (v := .ref a.NoRule) rfl C.m_NoRule rfl) (@pa_cons _ _ _ _ _ (pe_glob (v := .ref a.NoShare) rfl C.m_NoShare rfl) (@pa_cons _ _ _ _ _ (pe_glob (v := .ref a.NoStand) rfl C.m_NoStand rfl) (@pa_cons _ _ _ _ _ (pe_glob (v := .ref a.NoWeight) rfl C.m_NoWeight rfl) (@pa_cons _ _ _ _ _ (pe_glob (v := .ref a.NoWord) rfl C.m_NoWord rfl) (@pa_nil _) (star_of nofun)) (star_of nofun)) (star_of nofun)) (star_of nofun)) (star_of nofun)) (star_of nofun)) (star_of nofun)) (star_of nofun))) (@pa_nil _) (star_of nofun)) (star_of nofun)))) (@pss_one _ _ _ (ps_set (i := 2) sc_law_refused.nd rfl (Or.inl rfl) (@pe_tup _ _ _ _ _ (pa_cons (pe_callB call_isinstE rfl B.isinstance bt_isinstance (pa_cons (pv 3) (pa_cons (pe_glob (v := .ref a.NoPays) rfl C.m_NoPays rfl) (@pa_nil _)))) (pa_cons (pe_callB call_isinstT rfl B.isinstance bt_isinstance (pa_cons (pv 3) (pa_cons (pe_ty rfl B.ValueError bt_ValueError) (@pa_nil _)))) (pa_cons (pv 4) (@pa_nil _)))))))))) (@pss_one _ _ _ (@ps_ret _ _ _ _ (pv 2))))), ?_⟩
    rw [show start ["way", "grid", "told", "e", "others"] [V.int way, V.ref g] = [some (V.int way), some (V.ref g), none, none, none] from rfl]
    simp only [runs1, List.length_cons, List.length_nil, Nat.zero_add, List.replicate_succ, List.replicate_zero, List.drop_succ_cons, List.drop_zero, Int.zero_add, List.getElem?_cons_zero, List.getElem?_cons_succ, List.set_cons_zero, List.set_cons_succ, Option.some.injEq, V.int.injEq, V.ref.injEq, V.bl.injEq, V.ty.injEq, V.str.injEq, List.cons.injEq, List.append_nil, List.cons_append, List.nil_append, exists_eq, exists_eq', exists_eq_left, exists_eq_left', exists_and_left, exists_and_right, and_assoc, true_and, and_true, ↓reduceIte]
    refine ⟨by decide, fun p hp => ?_⟩
    have S1 : Same H (upd H p (.tup [])) := Same.upd (Same.refl _) hp
    have hp1 : upd H p (.tup []) p = some (.tup []) := upd_same
    generalize upd H p (.tup []) = H1 at *
    refine ⟨J16 a H1 [some (V.int way), some (V.ref g), some (V.ref p), none, none] rows n, fun pn => ?_, fun σ1 c H2 hJ => ?_⟩
    · refine ⟨rfl, ite2 (fun _ => ?_) fun _ => ?_⟩
      · refine ⟨g, rows, n, rfl, G.mono S1, hn, fun H2 v gs S2 Td Gr => ?_, fun H2 c S2 R => ⟨S2, rfl, rfl, c, R⟩⟩
        exact q0 H2 p (S1.trans S2) Gr.no (.of (S2 _ _ hp1))
      · refine ⟨g, rows, n, rfl, G.mono S1, hn, fun H2 v gs S2 Td Ls => ?_, fun H2 c S2 R => ⟨S2, rfl, rfl, c, R⟩⟩
        exact q0 H2 p (S1.trans S2) Ls.no (.of (S2 _ _ hp1))
    · obtain ⟨S2, rfl, rfl, c', R⟩ := hJ
      refine ⟨_, rfl, C.q_NoPays.toErr, C.s_NoPays_TrueError, fun e ea hea => ?_⟩
      simp only [runs1, List.length_cons, List.length_nil, Nat.zero_add, List.replicate_succ, List.replicate_zero, List.drop_succ_cons, List.drop_zero, Int.zero_add, List.getElem?_cons_zero, List.getElem?_cons_succ, List.set_cons_zero, List.set_cons_succ, Option.some.injEq, V.int.injEq, V.ref.injEq, V.bl.injEq, V.ty.injEq, V.str.injEq, List.cons.injEq, List.append_nil, List.cons_append, List.nil_append, exists_eq, exists_eq', exists_eq_left, exists_eq_left', exists_and_left, exists_and_right, and_assoc, true_and, and_true, ↓reduceIte]
      refine ⟨by decide, fun p2 hp2 => ?_⟩
      have Sa : Same H2 (upd H2 ea (ExcO ea a.NoPays)) := Same.upd (Same.refl _) hea
      have Sb : Same (upd H2 ea (ExcO ea a.NoPays)) (upd (upd H2 ea (ExcO ea a.NoPays)) p2 (.tup [V.ref a.NoHouse, V.ref a.NoMenu, V.ref a.NoRow, V.ref a.NoRule, V.ref a.NoShare, V.ref a.NoStand, V.ref a.NoWeight, V.ref a.NoWord])) := Same.upd (Same.refl _) hp2
      have h2 := Sb _ _ upd_same
      refine ⟨_, h2, C.q_NoPays, [a.NoHouse, a.NoMenu, a.NoRow, a.NoRule, a.NoShare, a.NoStand, a.NoWeight, a.NoWord], .of upd_same, false, kitAny_none ⟨C.k_NoPays_NoHouse, C.k_NoPays_NoMenu, C.k_NoPays_NoRow, C.k_NoPays_NoRule, C.k_NoPays_NoShare, C.k_NoPays_NoStand, C.k_NoPays_NoWeight, C.k_NoPays_NoWord, trivial⟩, ?_⟩
      refine ⟨_, h2, C.q_NoPays, _, C.k_NoPays_NoPays, _, h2, C.q_NoPays, _, C.v_NoPays, ?_⟩
      simp only [unEnds, runs1, List.length_cons, List.length_nil, Nat.zero_add, List.replicate_succ, List.replicate_zero, List.drop_succ_cons, List.drop_zero, Int.zero_add, List.getElem?_cons_zero, List.getElem?_cons_succ, List.set_cons_zero, List.set_cons_succ, Option.some.injEq, V.int.injEq, V.ref.injEq, V.bl.injEq, V.ty.injEq, V.str.injEq, List.cons.injEq, List.append_nil, List.cons_append, List.nil_append, exists_eq, exists_eq', exists_eq_left, exists_eq_left', exists_and_left, exists_and_right, and_assoc, true_and, and_true, ↓reduceIte]
      generalize upd (upd H2 ea (ExcO ea a.NoPays)) p2 (.tup [V.ref a.NoHouse, V.ref a.NoMenu, V.ref a.NoRow, V.ref a.NoRule, V.ref a.NoShare, V.ref a.NoStand, V.ref a.NoWeight, V.ref a.NoWord]) = H3 at *
      refine ⟨by decide, fun p3 hp3 => ?_⟩
      have Sc : Same H3 (upd H3 p3 (.tup [V.bl true, V.bl true, V.bl false])) := Same.upd (Same.refl _) hp3
      exact q1 _ p3 c' (S1.trans (S2.trans (Sa.trans (Sb.trans Sc)))) R (.of upd_same)
theorem f_law_right (B : Bt mg) (f_ring : FnAt P w K mg base "ring" 5 ["grid"] (spRing K)) (f_law_ring : FnAt P w K mg base "_law_ring" 2 ["grid", "words"] (spLRing K)) (f_law_refused : FnAt P w K mg base "_law_refused" 8 ["way", "grid"] (spRefused K)) (D : DefIn K mg "_law_right" s_law_right ["grid"]) : FnAt P w K mg base "_law_right" 9 ["grid"] (spRight K) := by
  refine FnAt.of D sc_law_right (fun vs H Q E h => ?_) (fun f cdv A outer s H vs Q E hr h => ?_)
  · obtain ⟨g, rows, n, rfl, _⟩ := h
    rfl
  · obtain ⟨g, rows, n, rfl, G, hn, q⟩ := h
    refine ⟨_, (@pss_cons _ _ _ _ _ (ps_set (i := 1) sc_law_right.nd rfl (Or.inl rfl) (pe_callA f_ring (hr.mono (by decide)) rfl (pa_cons (pv 0) (@pa_nil _)))) (@pss_cons _ _ _ _ _ (ps_set (i := 2) sc_law_right.nd rfl (Or.inl rfl) (@pe_tup _ _ _ _ _ (@pa_nil _))) (@pss_cons _ _ _ _ _ (@ps_if _ _ _ _ _ _ _ _ (@pt_cmpR _ _ _ _ _ _ _ _ op_notN (pv 1) (@pe_non _ _ _) (nomark _)) (@pss_cons _ _ _ _ _ (@ps_if _ _ _ _ _ _ _ _ (@pt_not _ _ _ _ (pt_val (pe_callA f_law_ring (hr.mono (by decide)) rfl (pa_cons (pv 0) (pa_cons (pv 1) (@pa_nil _)))))) (@pss_one _ _ _ (@ps_ret _ _ _ _ (@pe_bl _ _ _ _))) (@pss_nil _)) (@pss_one _ _ _ (ps_set (i := 2) sc_law_right.nd rfl (Or.inl rfl) (@pe_tup _ _ _ _ _ (pa_cons (@pe_bl _ _ _ _) (pa_cons (@pe_bl _ _ _ _) (pa_cons (@pe_bl _ _ _ _) (@pa_nil _)))))))) (@pss_nil _)) (@pss_one _ _ _ (@ps_ret _ _ _ _ (@pe_and _ _ _ _ _ _ _ (@pe_cmpR _ _ _ _ _ _ _ _ (op_eqT (Nat.lt_of_succ_lt (hu_of hr))) (pe_callA f_law_refused (hr.mono (by decide)) rfl (pa_cons (@pe_int _ _ _ _) (pa_cons (pv 0) (@pa_nil _)))) (pv 2) (nomark _)) (@pe_one _ _ _ _ _ (@pe_cmpR _ _ _ _ _ _ _ _ (op_eqT (Nat.lt_of_succ_lt (hu_of hr))) (pe_callA f_law_refused (hr.mono (by decide)) rfl (pa_cons (@pe_int _ _ _ _) (pa_cons (pv 0) (@pa_nil _)))) (pv 2) (nomark _))))))))), ?_⟩
    rw [show start ["grid", "found", "due"] [V.ref g] = [some (V.ref g), none, none] from rfl]
    simp only [runs1, List.length_cons, List.length_nil, Nat.zero_add, List.replicate_succ, List.replicate_zero, List.drop_succ_cons, List.drop_zero, Int.zero_add, List.getElem?_cons_zero, List.getElem?_cons_succ, List.set_cons_zero, List.set_cons_succ, Option.some.injEq, V.int.injEq, V.ref.injEq, V.bl.injEq, V.ty.injEq, V.str.injEq, List.cons.injEq, List.append_nil, List.cons_append, List.nil_append, exists_eq, exists_eq', exists_eq_left, exists_eq_left', exists_and_left, exists_and_right, and_assoc, true_and, and_true, ↓reduceIte]
    refine ⟨g, rows, n, rfl, G, hn, fun H1 S1 no => ?_, fun H1 l c S1 hl R => ?_⟩
    · simp only [runs1, List.length_cons, List.length_nil, Nat.zero_add, List.replicate_succ, List.replicate_zero, List.drop_succ_cons, List.drop_zero, Int.zero_add, List.getElem?_cons_zero, List.getElem?_cons_succ, List.set_cons_zero, List.set_cons_succ, Option.some.injEq, V.int.injEq, V.ref.injEq, V.bl.injEq, V.ty.injEq, V.str.injEq, List.cons.injEq, List.append_nil, List.cons_append, List.nil_append, exists_eq, exists_eq', exists_eq_left, exists_eq_left', exists_and_left, exists_and_right, and_assoc, true_and, and_true, ↓reduceIte]
      have no' := NoNeg.all no
      refine ⟨by decide, fun p hp => ?_⟩
      have S2 : Same H1 (upd H1 p (.tup [])) := Same.upd (Same.refl _) hp
      have hp2 : upd H1 p (.tup []) p = some (.tup []) := upd_same
      generalize upd H1 p (.tup []) = H2 at *
      refine ite2 (fun z => absurd z (by simp)) fun _ => ?_
      have bad : ∀ {c : List Nat}, RingA (turnA rows) n c → False := fun R => absurd (NoNeg.rnd (no' _) rfl R.lt) (by have := R.neg; omega)
      refine ⟨g, rows, n, 0, rfl, G.mono (S1.trans S2), hn, fun H3 tp S3 _ ht => ?_, fun H3 tp c S3 R _ => (bad R).elim⟩
      refine ⟨tp, rfl, _, ht, _, .of (S3 _ _ hp2), rfl, rfl, ?_⟩
      rw [show eqVs [] [] = true from rfl, if_pos rfl]
      refine ⟨g, rows, n, 1, rfl, G.mono (S1.trans (S2.trans S3)), hn, fun H4 tp4 S4 _ ht4 => ⟨tp4, rfl, _, ht4, _, .of ((S3.trans S4) _ _ hp2), rfl, rfl, ?_⟩, fun H3 tp c S3 R _ => (bad R).elim⟩
      rw [show eqVs [] [] = true from rfl]
      exact q _ (S1.trans (S2.trans (S3.trans S4)))
    · simp only [runs1, List.length_cons, List.length_nil, Nat.zero_add, List.replicate_succ, List.replicate_zero, List.drop_succ_cons, List.drop_zero, Int.zero_add, List.getElem?_cons_zero, List.getElem?_cons_succ, List.set_cons_zero, List.set_cons_succ, Option.some.injEq, V.int.injEq, V.ref.injEq, V.bl.injEq, V.ty.injEq, V.str.injEq, List.cons.injEq, List.append_nil, List.cons_append, List.nil_append, exists_eq, exists_eq', exists_eq_left, exists_eq_left', exists_and_left, exists_and_right, and_assoc, true_and, and_true, ↓reduceIte]
      refine ⟨by decide, fun p hp => ?_⟩
      have S2 : Same H1 (upd H1 p (.tup [])) := Same.upd (Same.refl _) hp
      generalize upd H1 p (.tup []) = H2 at *
      refine ite2 (fun _ => ?_) fun z => (z (by simp)).elim
      refine ⟨g, l, rows, c, n, rfl, G.mono (S1.trans S2), S2 _ _ hl, R, fun H3 S3 => ?_⟩
      simp only [runs1, List.length_cons, List.length_nil, Nat.zero_add, List.replicate_succ, List.replicate_zero, List.drop_succ_cons, List.drop_zero, Int.zero_add, List.getElem?_cons_zero, List.getElem?_cons_succ, List.set_cons_zero, List.set_cons_succ, Option.some.injEq, V.int.injEq, V.ref.injEq, V.bl.injEq, V.ty.injEq, V.str.injEq, List.cons.injEq, List.append_nil, List.cons_append, List.nil_append, exists_eq, exists_eq', exists_eq_left, exists_eq_left', exists_and_left, exists_and_right, and_assoc, true_and, and_true, ↓reduceIte]
      refine iteF ⟨by decide, fun p2 hp2 => ?_⟩
      have S4 : Same H3 (upd H3 p2 (.tup [V.bl true, V.bl true, V.bl false])) := Same.upd (Same.refl _) hp2
      have hp4 : upd H3 p2 (.tup [V.bl true, V.bl true, V.bl false]) p2 = some (.tup [V.bl true, V.bl true, V.bl false]) := upd_same
      generalize upd H3 p2 (.tup [V.bl true, V.bl true, V.bl false]) = H4 at *
      have S14 := S1.trans (S2.trans (S3.trans S4))
      refine ⟨g, rows, n, 0, rfl, G.mono S14, hn, fun H5 tp S5 no _ => absurd (NoNeg.rnd (no _) rfl R.lt) (by have := R.neg; omega), fun H5 tp c2 S5 _ ht => ?_⟩
      have ee : eqVs [V.bl true, V.bl true, V.bl false] [V.bl true, V.bl true, V.bl false] = true := by simp [eqVs, eqV]
      refine ⟨tp, rfl, _, ht, _, .of (S5 _ _ hp4), rfl, rfl, ?_⟩
      rw [ee, if_pos rfl]
      refine ⟨g, rows, n, 1, rfl, G.mono (S14.trans S5), hn, fun H6 tp S6 no _ => absurd (NoNeg.rnd (no _) rfl R.lt) (by have := R.neg; omega), fun H6 tp6 c2 S6 _ ht6 => ⟨tp6, rfl, _, ht6, _, .of ((S5.trans S6) _ _ hp4), rfl, rfl, ?_⟩⟩
      rw [ee]
      exact q _ (S14.trans (S5.trans S6))
end

theorem NewGrid.more {H H' H2 : Hp} {b : Addr} {bs : List Addr} {rows : List (List Int)} {k n : Nat} (g : NewGrid H H' b bs rows k n) (S : Same H' H2) : NewGrid H H2 b bs rows k n :=
  ⟨g.same.trans S, g.nb, g.nr, g.nd, g.ne, S _ _ g.at', g.lb, g.lr, fun i r ns e1 e2 => ⟨S _ _ (g.row i r ns e1 e2).1, (g.row i r ns e1 e2).2⟩⟩
theorem NewGrid.gd {K : PySem.W.Frag} {H H' : Hp} {b : Addr} {bs : List Addr} {rows : List (List Int)} {n : Nat} (g : NewGrid H H' b bs rows n n) (n8 : n ≤ 8) : Gd K H' b rows n := ⟨⟨bs, g.grid, g.lb⟩, g.width, n8⟩
theorem set_at {α : Type} {xs : List α} {i : Nat} {x : α} (h : xs[i]? = some x) : xs.set i x = xs := by
  obtain ⟨hi, e⟩ := List.getElem?_eq_some_iff.mp h
  rw [← e]
  exact List.set_getElem_self hi
structure Pick (O R : List Nat) (n i : Nat) : Prop where
  lo : O.length = i
  lr : R.length + i = n
  pm : (O ++ R).Perm (List.range n)
theorem Pick.step {O R : List Nat} {n i j y : Nat} (p : Pick O R n i) (h : R[j]? = some y) : Pick (O ++ [y]) (R.eraseIdx j) n (i + 1) := by
  obtain ⟨hj, e⟩ := List.getElem?_eq_some_iff.mp h
  have := p.lr
  refine ⟨by simp [p.lo], by rw [List.length_eraseIdx, if_pos hj]; omega, ?_⟩
  refine List.Perm.trans ?_ p.pm
  rw [List.append_assoc]
  refine List.Perm.append_left O ?_
  have e2 : R = R.take j ++ y :: R.drop (j + 1) := by
    have e3 := List.drop_eq_getElem_cons hj
    rw [e] at e3
    rw [← e3, List.take_append_drop]
  rw [List.eraseIdx_eq_take_drop_succ]
  conv => rhs; rw [e2]
  rw [List.singleton_append]
  exact List.perm_middle.symm
theorem nI_erase (R : List Nat) (j : Nat) : ((nI R).map V.int).eraseIdx j = (nI (R.eraseIdx j)).map V.int := by
  rw [List.eraseIdx_eq_take_drop_succ, List.eraseIdx_eq_take_drop_succ]
  simp [nI]
theorem seq_nat {j n : Nat} (h : j < n) : seqIndex? (j : Int) n = some j := by
  unfold seqIndex?
  simp
  omega
theorem Pick.nd {O R : List Nat} {n i : Nat} (p : Pick O R n i) : O.Nodup := (List.nodup_append.mp (p.pm.nodup_iff.mpr List.nodup_range)).1
theorem Pick.lt {O R : List Nat} {n i : Nat} (p : Pick O R n i) : ∀ x ∈ O, x < n := fun x hx => List.mem_range.mp (p.pm.mem_iff.mp (List.mem_append_left _ hx))
def PvK (H : Hp) (sc b rs wd : Addr) (bs : List Addr) (rows : List (List Int)) (n : Nat) (i : Nat) (σ : L2.St) (H4 : Hp) : Prop := ∃ (O R : List Nat) (v5 v6 v7 : Option V), NewGrid H H4 b bs rows n n ∧ H4 wd = some (.lst ((nI O).map V.int)) ∧ H4 rs = some (.lst ((nI R).map V.int)) ∧ Pick O R n i ∧
  σ = [some (.ref sc), some (.int n), some (.ref b), some (.ref rs), some (.ref wd), v5, v6, v7]
section
variable {P : Program} {w : World} {K : PySem.W.Frag} {mg : Str → Option Value} {base : Heap} {a : Ad}
set_option maxHeartbeats 8000000
theorem law_fn (B : Bt mg) (f_ring : FnAt P w K mg base "ring" 5 ["grid"] (spRing K)) (f_law_cell : FnAt P w K mg base "_law_cell" 1 ["script", "k"] (spCell K)) (f_law_priced : FnAt P w K mg base "_law_priced" 3 ["script", "many"] (spMade K)) (f_law_along : FnAt P w K mg base "_law_along" 1 ["grid", "words"] (spAlong K)) (f_law_right : FnAt P w K mg base "_law_right" 9 ["grid"] (spRight K)) {f : Addr} {fd : FuncData} (F : Fun K "law" "law" s_law f fd) : FnOk P w K mg base CX0 10 f fd ["script"] (spLaw K) := by
  refine F.ok sc_law (fun vs H Q E h => ?_) (fun cdv A outer s H vs Q E hr h => ?_)
  · obtain ⟨b, ns, rfl, _⟩ := h
    rfl
  · obtain ⟨sc, ns, rfl, hS, hlen, q⟩ := h
    refine ⟨_, (@pss_cons _ _ _ _ _ (ps_set (i := 1) sc_law.nd rfl (Or.inl rfl) (@pe_op _ _ _ _ _ _ _ _ op_add (@pe_int _ _ _ _) (@pe_op _ _ _ _ _ _ _ _ op_mod (pe_callA f_law_cell (hr.mono (by decide)) rfl (pa_cons (pv 0) (pa_cons (@pe_int _ _ _ _) (@pa_nil _)))) (@pe_int _ _ _ _)))) (@pss_cons _ _ _ _ _ (ps_set (i := 2) sc_law.nd rfl (Or.inl rfl) (pe_callA f_law_priced (hr.mono (by decide)) rfl (pa_cons (pv 0) (pa_cons (pv 1) (@pa_nil _))))) (@pss_cons _ _ _ _ _ (@ps_if _ _ _ _ _ _ _ _ (PW.pt (@pw_or _ _ _ _ _ _ _ (@pt_cmpR _ _ _ _ _ _ _ _ op_notN (pe_callA f_ring (hr.mono (by decide)) rfl (pa_cons (pv 2) (@pa_nil _))) (@pe_non _ _ _) (nomark _)) (@pw_or1 _ _ _ _ (@pt_not _ _ _ _ (pt_val (pe_callA f_law_right (hr.mono (by decide)) rfl (pa_cons (pv 2) (@pa_nil _)))))))) (@pss_one _ _ _ (@ps_ret _ _ _ _ (@pe_bl _ _ _ _))) (@pss_nil _)) (@pss_cons _ _ _ _ _ (ps_set (i := 3) sc_law.nd rfl (Or.inl rfl) (pe_listRng rfl rfl B.list rfl B.range (pa_cons (pv 1) (@pa_nil _)))) (@pss_cons _ _ _ _ _ (ps_set (i := 4) sc_law.nd rfl (Or.inl rfl) (@pe_lst _ _ _ _ (@pa_nil _))) (@pss_cons _ _ _ _ _ (ps_for PassesOwn.never rfl (pi_range1 rfl B.range (pa_cons (@pe_op _ _ _ _ _ _ _ _ op_add (@pe_int _ _ _ _) (@pe_op _ _ _ _ _ _ _ _ op_mod (pe_callA f_law_cell (hr.mono (by decide)) rfl (pa_cons (pv 0) (pa_cons (@pe_int _ _ _ _) (@pa_nil _)))) (@pe_op _ _ _ _ _ _ _ _ op_sub (pv 1) (@pe_int _ _ _ _)))) (@pa_nil _))) (pg_name (i := 5) sc_law.nd rfl (Or.inl rfl)) (@pss_one _ _ _ (ps_expr (pe_bm PySem.F.plainAttrs_list PySem.F.slot_list_append PySem.F.type_list_append mt_append (pv 4) (pa_cons (pe_bm PySem.F.plainAttrs_list PySem.F.slot_list_pop PySem.F.type_list_pop mt_popAt (pv 3) (pa_cons (@pe_op _ _ _ _ _ _ _ _ op_mod (@pe_op _ _ _ _ _ _ _ _ op_fdiv (pe_callA f_law_cell (hr.mono (by decide)) rfl (pa_cons (pv 0) (pa_cons (@pe_op _ _ _ _ _ _ _ _ op_add (@pe_int _ _ _ _) (@pe_op _ _ _ _ _ _ _ _ op_mod (pv 5) (@pe_int _ _ _ _))) (@pa_nil _)))) (@pe_op _ _ _ _ _ _ _ _ op_add (@pe_int _ _ _ _) (@pe_op _ _ _ _ _ _ _ _ op_mul (@pe_int _ _ _ _) (pv 5)))) (pe_callB call_len_seq rfl B.len bt_len (pa_cons (pv 3) (@pa_nil _)))) (@pa_nil _))) (@pa_nil _)))))) (@pss_cons _ _ _ _ _ (ps_set (i := 6) sc_law.nd rfl (Or.inl rfl) (@pe_op _ _ _ _ _ _ _ _ op_sub (@pe_op _ _ _ _ _ _ _ _ op_add (pe_callA f_law_along (hr.mono (by decide)) rfl (pa_cons (pv 2) (pa_cons (@pe_op _ _ _ _ _ _ _ _ op_cat (pv 4) (@pe_lst _ _ _ _ (pa_cons (@pe_ix _ _ _ _ _ _ _ ix_list (pv 4) (@pe_int _ _ _ _) (fun _ _ => rfl)) (@pa_nil _)))) (@pa_nil _)))) (@pe_op _ _ _ _ _ _ _ _ op_mod (@pe_op _ _ _ _ _ _ _ _ op_fdiv (pe_callA f_law_cell (hr.mono (by decide)) rfl (pa_cons (pv 0) (pa_cons (@pe_int _ _ _ _) (@pa_nil _)))) (@pe_int _ _ _ _)) (@pe_int _ _ _ _))) (@pe_int _ _ _ _))) (@pss_cons _ _ _ _ _ (ps_set (i := 7) sc_law.nd rfl (Or.inl rfl) (@pe_ix _ _ _ _ _ _ _ ix_list (@pe_ix _ _ _ _ _ _ _ ix_list (pv 2) (@pe_ix _ _ _ _ _ _ _ ix_list (pv 4) (@pe_int _ _ _ _) (fun _ _ => rfl)) (fun _ _ => rfl)) (@pe_ix _ _ _ _ _ _ _ ix_list (pv 4) (@pe_un _ _ _ _ _ _ un_neg (@pe_int _ _ _ _)) (fun _ _ => rfl)) (fun _ _ => rfl))) (@pss_cons _ _ _ _ _ (ps_asg (@pe_op _ _ _ _ _ _ _ _ op_add (pv 7) (pv 6)) (pg_sub (@pe_ix _ _ _ _ _ _ _ ix_list (pv 2) (@pe_ix _ _ _ _ _ _ _ ix_list (pv 4) (@pe_int _ _ _ _) (fun _ _ => rfl)) (fun _ _ => rfl)) (@pe_ix _ _ _ _ _ _ _ ix_list (pv 4) (@pe_un _ _ _ _ _ _ un_neg (@pe_int _ _ _ _)) (fun _ _ => rfl)) set_list)) (@pss_cons _ _ _ _ _ (@ps_if _ _ _ _ _ _ _ _ (PW.pt (@pw_and _ _ _ _ _ _ _ (@pt_cmpR _ _ _ _ _ _ _ _ op_lt (pe_callA f_law_along (hr.mono (by decide)) rfl (pa_cons (pv 2) (pa_cons (@pe_op _ _ _ _ _ _ _ _ op_cat (pv 4) (@pe_lst _ _ _ _ (pa_cons (@pe_ix _ _ _ _ _ _ _ ix_list (pv 4) (@pe_int _ _ _ _) (fun _ _ => rfl)) (@pa_nil _)))) (@pa_nil _)))) (@pe_int _ _ _ _) (nomark _)) (@pw_and1 _ _ _ _ (@pt_cmpR _ _ _ _ _ _ _ _ op_isN (pe_callA f_ring (hr.mono (by decide)) rfl (pa_cons (pv 2) (@pa_nil _))) (@pe_non _ _ _) (nomark _))))) (@pss_one _ _ _ (@ps_ret _ _ _ _ (@pe_bl _ _ _ _))) (@pss_nil _)) (@pss_cons _ _ _ _ _ (@ps_if _ _ _ _ _ _ _ _ (@pt_not _ _ _ _ (pt_val (pe_callA f_law_right (hr.mono (by decide)) rfl (pa_cons (pv 2) (@pa_nil _))))) (@pss_one _ _ _ (@ps_ret _ _ _ _ (@pe_bl _ _ _ _))) (@pss_nil _)) (@pss_cons _ _ _ _ _ (ps_asg (pv 7) (pg_sub (@pe_ix _ _ _ _ _ _ _ ix_list (pv 2) (@pe_ix _ _ _ _ _ _ _ ix_list (pv 4) (@pe_int _ _ _ _) (fun _ _ => rfl)) (fun _ _ => rfl)) (@pe_ix _ _ _ _ _ _ _ ix_list (pv 4) (@pe_un _ _ _ _ _ _ un_neg (@pe_int _ _ _ _)) (fun _ _ => rfl)) set_list)) (@pss_one _ _ _ (@ps_ret _ _ _ _ (@pe_and _ _ _ _ _ _ _ (@pe_cmpR _ _ _ _ _ _ _ _ op_isN (pe_callA f_ring (hr.mono (by decide)) rfl (pa_cons (pv 2) (@pa_nil _))) (@pe_non _ _ _) (nomark _)) (@pe_one _ _ _ _ _ (pe_callA f_law_right (hr.mono (by decide)) rfl (pa_cons (pv 2) (@pa_nil _))))))))))))))))))), ?_⟩
    rw [show start ["script", "many", "grid", "rest", "words", "k", "more", "kept"] [V.ref sc] = [some (V.ref sc), none, none, none, none, none, none, none] from rfl]
    simp only [runs1, List.length_cons, List.length_nil, Nat.zero_add, List.replicate_succ, List.replicate_zero, List.drop_succ_cons, List.drop_zero, Int.zero_add, List.getElem?_cons_zero, List.getElem?_cons_succ, List.set_cons_zero, List.set_cons_succ, Option.some.injEq, V.int.injEq, V.ref.injEq, V.bl.injEq, V.ty.injEq, V.str.injEq, List.cons.injEq, List.append_nil, List.cons_append, List.nil_append, exists_eq, exists_eq', exists_eq_left, exists_eq_left', exists_and_left, exists_and_right, and_assoc, true_and, and_true, ↓reduceIte]
    refine ⟨sc, ns, _, rfl, hS, by decide, fun c0 => ?_⟩
    simp only [runs1, List.length_cons, List.length_nil, Nat.zero_add, List.replicate_succ, List.replicate_zero, List.drop_succ_cons, List.drop_zero, Int.zero_add, List.getElem?_cons_zero, List.getElem?_cons_succ, List.set_cons_zero, List.set_cons_succ, Option.some.injEq, V.int.injEq, V.ref.injEq, V.bl.injEq, V.ty.injEq, V.str.injEq, List.cons.injEq, List.append_nil, List.cons_append, List.nil_append, exists_eq, exists_eq', exists_eq_left, exists_eq_left', exists_and_left, exists_and_right, and_assoc, true_and, and_true, ↓reduceIte]
    obtain ⟨n, en⟩ : ∃ n : Nat, 2 + c0 % 6 = n := ⟨(2 + c0 % 6).toNat, by omega⟩
    have hn2 : 2 ≤ n := by omega
    have hn7 : n ≤ 7 := by omega
    rw [en]
    refine ⟨by decide, sc, ns, n, rfl, hS, by omega, fun b bs rows ms H1 G ho => ?_⟩
    simp only [runs1, List.length_cons, List.length_nil, Nat.zero_add, List.replicate_succ, List.replicate_zero, List.drop_succ_cons, List.drop_zero, Int.zero_add, List.getElem?_cons_zero, List.getElem?_cons_succ, List.set_cons_zero, List.set_cons_succ, Option.some.injEq, V.int.injEq, V.ref.injEq, V.bl.injEq, V.ty.injEq, V.str.injEq, List.cons.injEq, List.append_nil, List.cons_append, List.nil_append, exists_eq, exists_eq', exists_eq_left, exists_eq_left', exists_and_left, exists_and_right, and_assoc, true_and, and_true, ↓reduceIte]
    refine ⟨b, rows, n, rfl, G.gd (by omega), by omega, fun H2 S2 no => ?_, fun H2 l c S2 hl R => (ring_no R ho).elim⟩
    simp only [runs1, List.length_cons, List.length_nil, Nat.zero_add, List.replicate_succ, List.replicate_zero, List.drop_succ_cons, List.drop_zero, Int.zero_add, List.getElem?_cons_zero, List.getElem?_cons_succ, List.set_cons_zero, List.set_cons_succ, Option.some.injEq, V.int.injEq, V.ref.injEq, V.bl.injEq, V.ty.injEq, V.str.injEq, List.cons.injEq, List.append_nil, List.cons_append, List.nil_append, exists_eq, exists_eq', exists_eq_left, exists_eq_left', exists_and_left, exists_and_right, and_assoc, true_and, and_true, ↓reduceIte]
    have G2 := G.more S2
    refine ite2 (fun z => absurd z (by simp)) fun _ => ?_
    refine ⟨b, rows, n, rfl, G2.gd (by omega), by omega, fun H3 S3 => ?_⟩
    simp only [runs1, List.length_cons, List.length_nil, Nat.zero_add, List.replicate_succ, List.replicate_zero, List.drop_succ_cons, List.drop_zero, Int.zero_add, List.getElem?_cons_zero, List.getElem?_cons_succ, List.set_cons_zero, List.set_cons_succ, Option.some.injEq, V.int.injEq, V.ref.injEq, V.bl.injEq, V.ty.injEq, V.str.injEq, List.cons.injEq, List.append_nil, List.cons_append, List.nil_append, exists_eq, exists_eq', exists_eq_left, exists_eq_left', exists_and_left, exists_and_right, and_assoc, true_and, and_true, ↓reduceIte]
    have G3 := G2.more S3
    refine iteF ⟨n, rfl, by omega, fun rs hrs => ⟨Nat.zero_le _, fun wd hwd => ?_⟩⟩
    have S4 : Same H3 (upd H3 rs (.lst (((List.range n).map fun i : Nat => ((i : Nat) : Int)).map V.int))) := Same.upd (Same.refl _) hrs
    have hr4 : upd H3 rs (.lst (((List.range n).map fun i : Nat => ((i : Nat) : Int)).map V.int)) rs = some (.lst ((nI (List.range n)).map V.int)) := upd_same
    generalize upd H3 rs (.lst (((List.range n).map fun i : Nat => ((i : Nat) : Int)).map V.int)) = H4 at *
    have S5 : Same H4 (upd H4 wd (.lst [])) := Same.upd (Same.refl _) hwd
    have hw5 : upd H4 wd (.lst []) wd = some (.lst ((nI []).map V.int)) := upd_same
    generalize upd H4 wd (.lst []) = H5 at *
    have G4 := G3.more S4
    have G5 := G4.more S5
    have hr5 := S5 _ _ hr4
    have nrs : H rs = none := G3.same.free hrs
    have nwd : H wd = none := G4.same.free hwd
    have rsb : rs ≠ b := Ne.symm (ne_of_none G3.at' hrs)
    have wdb : wd ≠ b := Ne.symm (ne_of_none G4.at' hwd)
    have rsbs : rs ∉ bs := not_row G3 hrs
    have wdbs : wd ∉ bs := not_row G4 hwd
    have rswd : rs ≠ wd := ne_of_none hr4 hwd
    refine ⟨sc, ns, _, rfl, G5.same.seq hS, by decide, fun c1 => ?_⟩
    simp only [runs1, List.length_cons, List.length_nil, Nat.zero_add, List.replicate_succ, List.replicate_zero, List.drop_succ_cons, List.drop_zero, Int.zero_add, List.getElem?_cons_zero, List.getElem?_cons_succ, List.set_cons_zero, List.set_cons_succ, Option.some.injEq, V.int.injEq, V.ref.injEq, V.bl.injEq, V.ty.injEq, V.str.injEq, List.cons.injEq, List.append_nil, List.cons_append, List.nil_append, exists_eq, exists_eq', exists_eq_left, exists_eq_left', exists_and_left, exists_and_right, and_assoc, true_and, and_true, ↓reduceIte]
    obtain ⟨m, em⟩ : ∃ m : Nat, 2 + c1 % ((n : Int) - 1) = m := ⟨(2 + c1 % ((n : Int) - 1)).toNat, by have := Int.emod_nonneg c1 (b := (n : Int) - 1) (by omega); omega⟩
    have hm2 : 2 ≤ m := by have := Int.emod_nonneg c1 (b := (n : Int) - 1) (by omega); omega
    have hmn : m ≤ n := by have := Int.emod_lt_of_pos c1 (b := (n : Int) - 1) (by omega); omega
    rw [em]
    refine ⟨by omega, by omega, by omega, ?_⟩
    rw [Int.toNat_natCast]
    refine for_range (PvK H sc b rs wd bs rows n) ⟨[], List.range n, _, _, _, G5, hw5, hr5, ⟨rfl, by simp, List.Perm.refl _⟩, rfl⟩ ?_ ?_
    · rintro i σ H6 hi ⟨O, R, v5, v6, v7, G6, hw6, hr6, pk, rfl⟩
      have lR := pk.lr
      simp only [runs1, List.length_cons, List.length_nil, Nat.zero_add, List.replicate_succ, List.replicate_zero, List.drop_succ_cons, List.drop_zero, Int.zero_add, List.getElem?_cons_zero, List.getElem?_cons_succ, List.set_cons_zero, List.set_cons_succ, Option.some.injEq, V.int.injEq, V.ref.injEq, V.bl.injEq, V.ty.injEq, V.str.injEq, List.cons.injEq, List.append_nil, List.cons_append, List.nil_append, exists_eq, exists_eq', exists_eq_left, exists_eq_left', exists_and_left, exists_and_right, and_assoc, true_and, and_true, ↓reduceIte]
      refine ⟨.inl ⟨rfl, _, .of hw6⟩, .inl ⟨rfl, _, .of hr6⟩, by decide, sc, ns, _, rfl, G6.same.seq hS, by omega, fun c => ?_⟩
      refine ⟨.inl ⟨by omega, by omega⟩, c, rfl, ⟨by omega, by omega⟩, _, .inl (.of hr6), ?_⟩
      have lR' : ((nI R).map V.int).length = R.length := by simp [nI]
      rw [lR']
      have hR0 : 0 < R.length := by omega
      obtain ⟨j, ej⟩ : ∃ j : Nat, c / (1 + 2 * (i : Int)) % (R.length : Int) = j := ⟨(c / (1 + 2 * (i : Int)) % (R.length : Int)).toNat, by have := Int.emod_nonneg (c / (1 + 2 * (i : Int))) (b := (R.length : Int)) (by omega); omega⟩
      have hj : j < R.length := by have := Int.emod_lt_of_pos (c / (1 + 2 * (i : Int))) (b := (R.length : Int)) (by omega); omega
      rw [ej]
      obtain ⟨y, hy⟩ := get_ex hj
      refine ⟨by omega, _, hr6, by omega, by omega, j, by rw [lR']; exact seq_nat hj, V.int y, nI_at hy, _, by rw [upd_ne (Ne.symm rswd)]; exact hw6, ?_, ?_⟩
      · have := pk.lo
        simp only [nI, List.length_map]
        exact Nat.lt_of_lt_of_le (show O.length < 8 by omega) (by decide)
      · refine ⟨O ++ [y], R.eraseIdx j, _, _, _, (G6.write nrs rsbs rsb).write nwd wdbs wdb, by rw [upd_same, nI_snoc], ?_, pk.step hy, rfl⟩
        rw [upd_ne rswd, upd_same, nI_erase]
    · rintro σ H6 ⟨O, R, v5, v6, v7, G6, hw6, hr6, pk, rfl⟩
      simp only [runs1, List.length_cons, List.length_nil, Nat.zero_add, List.replicate_succ, List.replicate_zero, List.drop_succ_cons, List.drop_zero, Int.zero_add, List.getElem?_cons_zero, List.getElem?_cons_succ, List.set_cons_zero, List.set_cons_succ, Option.some.injEq, V.int.injEq, V.ref.injEq, V.bl.injEq, V.ty.injEq, V.str.injEq, List.cons.injEq, List.append_nil, List.cons_append, List.nil_append, exists_eq, exists_eq', exists_eq_left, exists_eq_left', exists_and_left, exists_and_right, and_assoc, true_and, and_true, ↓reduceIte]
      have lO := pk.lo
      obtain ⟨w0, ws, rfl⟩ : ∃ w0 ws, O = w0 :: ws := by
        cases O with
        | nil => simp at lO; omega
        | cons w0 ws => exact ⟨w0, ws, rfl⟩
      have hlt := pk.lt
      have hw0 := hlt w0 List.mem_cons_self
      have hwl : lastN w0 ws < n := hlt _ (lastN_mem ws w0)
      have lws : ws.length ≤ 8 := by simp at lO; omega
      have hltc : ∀ x ∈ w0 :: (ws ++ [w0]), x < n := fun x hx => by
        rcases List.mem_cons.mp hx with z | z
        · rw [z]; exact hw0
        · rcases List.mem_append.mp z with z | z
          · exact hlt x (List.mem_cons_of_mem _ z)
          · rw [List.mem_singleton.mp z]; exact hw0
      refine ⟨_, .of hw6, _, atI_nat (j := 0) (nI_at (ws := w0 :: ws) rfl), by decide, fun p1 hp1 => ?_⟩
      have S7 : Same H6 (upd H6 p1 (.lst [V.int w0])) := Same.upd (Same.refl _) hp1
      refine ⟨_, S7 _ _ hw6, _, upd_same, ?_, fun p2 hp2 => ?_⟩
      · simp only [nI, List.length_map, List.length_cons, List.length_nil]
        exact Nat.le_trans (show ws.length + 1 + 1 ≤ 10 by omega) (by decide)
      have S8 : Same (upd H6 p1 (.lst [V.int w0])) (upd (upd H6 p1 (.lst [V.int w0])) p2 (.lst ((nI (w0 :: ws)).map V.int ++ [V.int w0]))) := Same.upd (Same.refl _) hp2
      have hp8 : upd (upd H6 p1 (.lst [V.int w0])) p2 (.lst ((nI (w0 :: ws)).map V.int ++ [V.int w0])) p2 = some (.lst ((nI (w0 :: (ws ++ [w0]))).map V.int)) := by rw [upd_same, nI_snoc]; rfl
      have S68 := S7.trans S8
      generalize upd (upd H6 p1 (.lst [V.int w0])) p2 (.lst ((nI (w0 :: ws)).map V.int ++ [V.int w0])) = H8 at *
      have G8 := G6.more S68
      refine ⟨b, p2, bs, rows, n, w0, ws ++ [w0], rfl, G8.grid, G8.width, .of hp8, hltc, by simp; omega, fun H9 S9 => ?_⟩
      have G9 := G8.more S9
      have hw9 := (S68.trans S9) _ _ hw6
      refine ⟨sc, ns, _, rfl, G9.same.seq hS, by decide, fun c3 => ?_⟩
      obtain ⟨ns0, e1, l1⟩ := G9.width w0 hw0
      obtain ⟨r0, k0⟩ := get_ex (xs := bs) (t := w0) (by rw [G9.lb]; exact hw0)
      have hr0 := (G9.row w0 r0 ns0 k0 e1).1
      have hwlx : ns0[lastN w0 ws]? = some (cellA rows w0 (lastN w0 ws)) := cell_at e1 (by omega)
      have kr : atI (bs.map V.ref) (w0 : Int) = some (V.ref r0) := atI_nat (by rw [List.getElem?_map, k0]; rfl)
      have r0bs : r0 ∈ bs := List.mem_of_getElem? k0
      have wdr0 : wd ≠ r0 := by rintro rfl; exact wdbs r0bs
      refine ⟨c3, rfl, ⟨by decide, by decide⟩, by decide, _, rfl, _, .of hw9, _, atI_nat (j := 0) (nI_at (ws := w0 :: ws) rfl), _, _, rfl, .of G9.at', _, kr, _, .of hw9, _, at_last w0 ws, r0, rfl, _, _, rfl, .of hr0, _, at_int hwlx, ?_⟩
      refine ⟨_, rfl, _, .of hw9, _, atI_nat (j := 0) (nI_at (ws := w0 :: ws) rfl), _, _, rfl, .of G9.at', _, kr, _, .of hw9, _, at_last w0 ws, r0, rfl, _, _, rfl, hr0, lastN w0 ws, ixN_nat (by rw [List.length_map]; omega), ?_⟩
      generalize cellA rows w0 (lastN w0 ws) + (walkA rows w0 (ws ++ [w0]) + c3 / 7 % 3 - 1) = v at *
      have G10 := G9.put (j := lastN w0 ws) (v := v) k0 e1
      have hw10 : upd H9 r0 (.lst ((ns0.map V.int).set (lastN w0 ws) (V.int v))) wd = some (.lst ((nI (w0 :: ws)).map V.int)) := by rw [upd_ne wdr0]; exact hw9
      generalize upd H9 r0 (.lst ((ns0.map V.int).set (lastN w0 ws) (V.int v))) = H10 at *
      have e1' : (rows.set w0 (ns0.set (lastN w0 ws) v))[w0]? = some (ns0.set (lastN w0 ws) v) := List.getElem?_set_self (by rw [G9.lr]; exact hw0)
      refine ⟨_, .of hw10, _, atI_nat (j := 0) (nI_at (ws := w0 :: ws) rfl), by decide, fun p3 hp3 => ?_⟩
      have S11 : Same H10 (upd H10 p3 (.lst [V.int w0])) := Same.upd (Same.refl _) hp3
      refine ⟨_, S11 _ _ hw10, _, upd_same, ?_, fun p4 hp4 => ?_⟩
      · simp only [nI, List.length_map, List.length_cons, List.length_nil]
        exact Nat.le_trans (show ws.length + 1 + 1 ≤ 10 by omega) (by decide)
      have S12 : Same (upd H10 p3 (.lst [V.int w0])) (upd (upd H10 p3 (.lst [V.int w0])) p4 (.lst ((nI (w0 :: ws)).map V.int ++ [V.int w0]))) := Same.upd (Same.refl _) hp4
      have hp12 : upd (upd H10 p3 (.lst [V.int w0])) p4 (.lst ((nI (w0 :: ws)).map V.int ++ [V.int w0])) p4 = some (.lst ((nI (w0 :: (ws ++ [w0]))).map V.int)) := by rw [upd_same, nI_snoc]; rfl
      have SS := S11.trans S12
      generalize upd (upd H10 p3 (.lst [V.int w0])) p4 (.lst ((nI (w0 :: ws)).map V.int ++ [V.int w0])) = H12 at *
      have G12 := G10.more SS
      have hw12 := SS _ _ hw10
      generalize hrows' : rows.set w0 (ns0.set (lastN w0 ws) v) = rows' at *
      refine ⟨b, p4, bs, rows', n, w0, ws ++ [w0], rfl, G12.grid, G12.width, .of hp12, hltc, by simp; omega, fun H13 S13 => ?_⟩
      have G13 := G12.more S13
      have hw13 := S13 _ _ hw12
      have erow : rows'.set w0 ((ns0.set (lastN w0 ws) v).set (lastN w0 ws) (cellA rows w0 (lastN w0 ws))) = rows := by
        rw [← hrows', List.set_set, List.set_set, set_at hwlx, set_at e1]
      refine ⟨_, rfl, ite2 (fun h => ?_) fun h => ?_⟩
      · have hneg := of_decide_eq_true h
        refine ⟨b, rows', n, rfl, G13.gd (by omega), by omega, fun H14 S14 no => ?_, fun H14 l c S14 hl R => ?_⟩
        · exfalso
          have := NoNeg.all no (ws.length + 1) w0 (ws ++ [w0]) hw0 ⟨by simp, fun x hx => hltc x (List.mem_cons_of_mem _ hx), lst_snoc _ _ _⟩
          rw [wk_A] at this
          omega
        · simp only [runs1, List.length_cons, List.length_nil, Nat.zero_add, List.replicate_succ, List.replicate_zero, List.drop_succ_cons, List.drop_zero, Int.zero_add, List.getElem?_cons_zero, List.getElem?_cons_succ, List.set_cons_zero, List.set_cons_succ, Option.some.injEq, V.int.injEq, V.ref.injEq, V.bl.injEq, V.ty.injEq, V.str.injEq, List.cons.injEq, List.append_nil, List.cons_append, List.nil_append, exists_eq, exists_eq', exists_eq_left, exists_eq_left', exists_and_left, exists_and_right, and_assoc, true_and, and_true, ↓reduceIte]
          refine ite2 (fun z => absurd (of_decide_eq_true z) (by simp)) fun _ => ?_
          have G14 := G13.more S14
          have hw14 := S14 _ _ hw13
          refine ⟨b, rows', n, rfl, G14.gd (by omega), by omega, fun H15 S15 => ⟨_, rfl, iteF ?_⟩⟩
          have G15 := G14.more S15
          have hw15 := S15 _ _ hw14
          have hr15 := (G15.row w0 r0 _ k0 e1').1
          refine ⟨_, .of hw15, _, atI_nat (j := 0) (nI_at (ws := w0 :: ws) rfl), _, _, rfl, .of G15.at', _, kr, _, .of hw15, _, at_last w0 ws, r0, rfl, _, _, rfl, hr15, lastN w0 ws, ixN_nat (by rw [List.length_map, List.length_set]; omega), ?_⟩
          have G16 := G15.put (j := lastN w0 ws) (v := cellA rows w0 (lastN w0 ws)) k0 e1'
          rw [erow] at G16
          generalize upd H15 r0 (.lst (((ns0.set (lastN w0 ws) v).map V.int).set (lastN w0 ws) (V.int (cellA rows w0 (lastN w0 ws))))) = H16 at *
          refine ⟨b, rows, n, rfl, G16.gd (by omega), by omega, fun H17 S17 _ => ?_, fun H17 l c S17 hl R => (ring_no R ho).elim⟩
          simp only [runs1, List.length_cons, List.length_nil, Nat.zero_add, List.replicate_succ, List.replicate_zero, List.drop_succ_cons, List.drop_zero, Int.zero_add, List.getElem?_cons_zero, List.getElem?_cons_succ, List.set_cons_zero, List.set_cons_succ, Option.some.injEq, V.int.injEq, V.ref.injEq, V.bl.injEq, V.ty.injEq, V.str.injEq, List.cons.injEq, List.append_nil, List.cons_append, List.nil_append, exists_eq, exists_eq', exists_eq_left, exists_eq_left', exists_and_left, exists_and_right, and_assoc, true_and, and_true, ↓reduceIte]
          refine ite2 (fun _ => ?_) fun z => absurd (decide_eq_true trivial) z
          exact ⟨b, rows, n, rfl, (G16.more S17).gd (by omega), by omega, fun H18 S18 => q _⟩
      · simp only [Bool.false_eq_true, if_false]
        refine ⟨b, rows', n, rfl, G13.gd (by omega), by omega, fun H15 S15 => ⟨_, rfl, iteF ?_⟩⟩
        have G15 := G13.more S15
        have hw15 := S15 _ _ hw13
        have hr15 := (G15.row w0 r0 _ k0 e1').1
        refine ⟨_, .of hw15, _, atI_nat (j := 0) (nI_at (ws := w0 :: ws) rfl), _, _, rfl, .of G15.at', _, kr, _, .of hw15, _, at_last w0 ws, r0, rfl, _, _, rfl, hr15, lastN w0 ws, ixN_nat (by rw [List.length_map, List.length_set]; omega), ?_⟩
        have G16 := G15.put (j := lastN w0 ws) (v := cellA rows w0 (lastN w0 ws)) k0 e1'
        rw [erow] at G16
        generalize upd H15 r0 (.lst (((ns0.set (lastN w0 ws) v).map V.int).set (lastN w0 ws) (V.int (cellA rows w0 (lastN w0 ws))))) = H16 at *
        refine ⟨b, rows, n, rfl, G16.gd (by omega), by omega, fun H17 S17 _ => ?_, fun H17 l c S17 hl R => (ring_no R ho).elim⟩
        simp only [runs1, List.length_cons, List.length_nil, Nat.zero_add, List.replicate_succ, List.replicate_zero, List.drop_succ_cons, List.drop_zero, Int.zero_add, List.getElem?_cons_zero, List.getElem?_cons_succ, List.set_cons_zero, List.set_cons_succ, Option.some.injEq, V.int.injEq, V.ref.injEq, V.bl.injEq, V.ty.injEq, V.str.injEq, List.cons.injEq, List.append_nil, List.cons_append, List.nil_append, exists_eq, exists_eq', exists_eq_left, exists_eq_left', exists_and_left, exists_and_right, and_assoc, true_and, and_true, ↓reduceIte]
        refine ite2 (fun _ => ?_) fun z => absurd (decide_eq_true trivial) z
        exact ⟨b, rows, n, rfl, (G16.more S17).gd (by omega), by omega, fun H18 S18 => q _⟩
theorem law_ok (B : Bt mg) (C : Ct K mg a) (d_turn : DefIn K mg "turn" s_turn ["grid", "s", "t"]) (d_gain : DefIn K mg "gain" s_gain ["grid", "pays", "t", "s"]) (d_first_gain : DefIn K mg "first_gain" s_first_gain ["grid", "pays"]) (d_total_of : DefIn K mg "total_of" s_total_of ["walk"]) (d_words_of : DefIn K mg "words_of" s_words_of ["walk"]) (d_walks_of_one_turn : DefIn K mg "walks_of_one_turn" s_walks_of_one_turn ["grid", "s"]) (d_least_to : DefIn K mg "least_to" s_least_to ["grid", "walks", "t"]) (d_lengthened : DefIn K mg "lengthened" s_lengthened ["grid", "walks"]) (d_after_a_turn : DefIn K mg "after_a_turn" s_after_a_turn ["grid", "totals", "t"]) (d_has_honest : DefIn K mg "has_honest" s_has_honest ["grid"]) (d_closed_below_zero : DefIn K mg "closed_below_zero" s_closed_below_zero ["rows"]) (d_ring : DefIn K mg "ring" s_ring ["grid"]) (d_refuse_ring : DefIn K mg "refuse_ring" s_refuse_ring ["grid"]) (d_lesser : DefIn K mg "lesser" s_lesser ["walk", "longer"]) (d_least_roads : DefIn K mg "least_roads" s_least_roads ["grid", "walks"]) (d_greatest : DefIn K mg "greatest" s_greatest ["grid"]) (d_mirrored_row : DefIn K mg "mirrored_row" s_mirrored_row ["grid", "t"]) (d_mirrored : DefIn K mg "mirrored" s_mirrored ["grid"]) (d_least : DefIn K mg "least" s_least ["grid"]) (d_law_cell : DefIn K mg "_law_cell" s_law_cell ["script", "k"]) (d_law_number : DefIn K mg "_law_number" s_law_number ["cell", "top"]) (d_law_pays : DefIn K mg "_law_pays" s_law_pays ["script", "many"]) (d_law_priced : DefIn K mg "_law_priced" s_law_priced ["script", "many"]) (d_law_along : DefIn K mg "_law_along" s_law_along ["grid", "words"]) (d_law_words : DefIn K mg "_law_words" s_law_words ["words", "many"]) (d_law_ring : DefIn K mg "_law_ring" s_law_ring ["grid", "words"]) (d_law_refused : DefIn K mg "_law_refused" s_law_refused ["way", "grid"]) (d_law_right : DefIn K mg "_law_right" s_law_right ["grid"]) (base : Heap) {f : Addr} {fd : FuncData} (F : Fun K "law" "law" s_law f fd) : FnOk P w K mg base CX0 10 f fd ["script"] (spLaw K) := by
  have c1 := f_law_cell (P := P) (w := w) (base := base) B d_law_cell
  have c2 := f_law_number (P := P) (w := w) (base := base) d_law_number
  have c3 := f_law_pays B c1 c2 d_law_pays
  have c5 := f_law_priced B c1 c2 c3 d_law_priced
  have c7 := f_turn (P := P) (w := w) (base := base) d_turn
  have c8 := f_total_of (P := P) (w := w) (base := base) d_total_of
  have c9 := f_words_of (P := P) (w := w) (base := base) d_words_of
  have c10 := f_walks_of_one_turn B c7 d_walks_of_one_turn
  have c11 := f_least_to B c7 c8 d_least_to
  have c12 := f_lengthened B c11 d_lengthened
  have c13 := f_closed_below_zero B c8 c9 d_closed_below_zero
  have c14 := f_ring B (f_has_honest B (f_after_a_turn B (f_turn (P := P) (w := w) (base := base) d_turn) d_after_a_turn) (f_first_gain B (f_gain (f_turn (P := P) (w := w) (base := base) d_turn) d_gain) d_first_gain) d_has_honest) c10 c12 c13 d_ring
  have c15 := f_law_along (P := P) (w := w) (base := base) B d_law_along
  have c16 := f_law_words (P := P) (w := w) (base := base) B d_law_words
  have c17 := g_lengthened B (g_least_to B c7 c8 d_least_to) d_lengthened
  have c18 := f_least_roads B c17 (f_lesser c8 d_lesser) d_least_roads
  have c20 := f_refuse_ring B C c14 d_refuse_ring
  have c19 := f_greatest B C c20 c18 c8 c9 d_greatest
  have c21 := f_least B C c20 c18 (f_mirrored B (f_mirrored_row B c7 d_mirrored_row) d_mirrored) c8 c9 d_least
  have c22 := f_law_right B c14 (f_law_ring B c16 c15 d_law_ring) (f_law_refused B C c19 c21 d_law_refused) d_law_right
  exact law_fn B c14 c1 c5 c15 c22 F
end

end Mine

namespace Tp
open PySem PySem.W PySem.Calls PyProof.Rows
abbrev pr : Program := PySem.Challenge.pw_trueword_k16_no_payments
noncomputable def en (P : Params) (x : Str) (t : Nat) (v : Value) : DictEntry := ⟨PyData.keyHash P x, .str x t, v⟩
abbrev fn (i : Nat) (name qual : Str) (dV kV doc pm : Value) (an : Option Addr) (cdv ct : Value) : FuncData := fnOf name qual (L2.defArgs (Mine.top i)) (L2.defBody (Mine.top i)) (L2.defScope (Mine.top i)) dV kV doc pm an cdv ct
abbrev fx (i : Nat) (name qual : Str) (g : Addr) (dV kV doc pm : Value) (an : Option Addr) (cdv ct : Value) (b : Addr) : FuncData := ⟨name, qual, L2.defArgs (Mine.top i), .stmts (L2.defBody (Mine.top i)), L2.defScope (Mine.top i), g, [], dV, kV, doc, pm, an, cdv, ct, b⟩
noncomputable def lf (P : Params) : Life := (boot_heap P).life
noncomputable def env : Env := { scope := pr.main.scope, locals := mainNs, globals := mainNs, cells := [], code := (.ref 13), frame := some 14 }
noncomputable def cd : Code := .body (behindTheImports pr) env
noncomputable def qp : Pos := ⟨0, 0, 0, 0⟩
noncomputable def o11 (P : Params) : Obj := ⟨(.type "tuple"), none, (.seq #[] 0), #[]⟩
noncomputable def o12 (P : Params) : Obj := ⟨.none, none, (.fields #[]), #[]⟩
noncomputable def o13 (P : Params) : Obj := ⟨(.type "code"), none, (.fields #[(.str "<module>" 182), (.str "<module>" 183), (.str "/claim/cut.py" 184), (.int (1) 0), (.int (0) 0), (.int (0) 0), (.int (0) 0), (.int (0) 0), (.ref 11), (.bool false), (.int (181) 0), (.ref 12), .none, .none, .none, .none, (.int (185) 0), (.int (1) 0), (.str "/claim/cut.py" 186)]), #[]⟩
noncomputable def o14 (P : Params) : Obj := ⟨(.type "frame"), none, .plain, #[(some (.ref 13)), (some (.ref 3)), (some (.ref 3)), none, (some (.str "__main__" 164)), none, (some (.ref 0))]⟩
noncomputable def ha (P : Params) : Heap := ⟨⟨[boot_o_0 P, boot_o_1 P, boot_o_2 P, boot_o_3 P, boot_o_4 P, boot_o_5 P, boot_o_6 P, boot_o_7 P, boot_o_8 P, boot_o_9 P, boot_o_10 P, o11 P, o12 P, o13 P, o14 P]⟩, lf P⟩
noncomputable def t0 (P : Params) : BT := (.node (boot_o_0 P) (.node (boot_o_1 P) (.node (boot_o_3 P) (.node (boot_o_7 P) .nil .nil) (.node (o11 P) .nil .nil)) (.node (boot_o_5 P) (.node (boot_o_9 P) .nil .nil) (.node (o13 P) .nil .nil))) (.node (boot_o_2 P) (.node (boot_o_4 P) (.node (boot_o_8 P) .nil .nil) (.node (o12 P) .nil .nil)) (.node (boot_o_6 P) (.node (boot_o_10 P) .nil .nil) (.node (o14 P) .nil .nil))))
noncomputable def o3 (P : Params) : Obj := ⟨(.type "dict"), none, (.dict #[en P "__name__" 165 (.str "trueword.errors" 280), en P "__doc__" 166 .none, en P "__package__" 167 .none, en P "__loader__" 168 (.builtin "__main__.__loader__#opaque"), en P "__spec__" 169 .none, en P "__annotations__" 170 (.ref 6), en P "__builtins__" 171 (.ref 4), en P "__file__" 173 (.str "/claim/cut.py" 172), en P "__cached__" 174 .none, en P "turn" 197 (.ref 21), en P "gain" 207 (.ref 28), en P "first_gain" 218 (.ref 35), en P "total_of" 227 (.ref 42), en P "words_of" 234 (.ref 49), en P "walks_of_one_turn" 240 (.ref 54), en P "least_to" 246 (.ref 59), en P "lengthened" 252 (.ref 64), en P "after_a_turn" 258 (.ref 69), en P "has_honest" 264 (.ref 74), en P "closed_below_zero" 273 (.ref 81), en P "ring" 279 (.ref 86), en P "TrueError" 299 (.ref 96), en P "NoPays" 315 (.ref 109), en P "NoHouse" 331 (.ref 121), en P "NoMenu" 347 (.ref 133), en P "NoWeight" 363 (.ref 145)] 26), #[]⟩
noncomputable def o12_1 (P : Params) : Obj := ⟨.none, none, (.fields #[(.int (2) 0), (.int (0) 0), (.ref 20), (.int (4) 0), (.int (0) 0), (.ref 27), (.int (6) 0), (.int (0) 0), (.ref 34), (.int (14) 0), (.int (0) 0), (.ref 41), (.int (16) 0), (.int (0) 0), (.ref 48), (.int (18) 0), (.int (0) 0), (.ref 53), (.int (20) 0), (.int (0) 0), (.ref 58), (.int (23) 0), (.int (0) 0), (.ref 63), (.int (25) 0), (.int (0) 0), (.ref 68), (.int (27) 0), (.int (0) 0), (.ref 73), (.int (32) 0), (.int (0) 0), (.ref 80), (.int (37) 0), (.int (0) 0), (.ref 85), (.int (48) 0), (.int (0) 0), (.ref 92), (.int (50) 0), (.int (0) 0), (.ref 105), (.int (52) 0), (.int (0) 0), (.ref 117), (.int (54) 0), (.int (0) 0), (.ref 129), (.int (56) 0), (.int (0) 0), (.ref 141)]), #[]⟩
noncomputable def o15 (P : Params) : Obj := ⟨(.type "tuple"), none, (.seq #[] 0), #[]⟩
noncomputable def o16 (P : Params) : Obj := ⟨.none, none, (.fields #[]), #[]⟩
noncomputable def o17 (P : Params) : Obj := ⟨(.type "tuple"), none, (.seq #[(.str "grid" 192), (.str "s" 193), (.str "t" 194)] 0), #[]⟩
noncomputable def o18 (P : Params) : Obj := ⟨(.type "tuple"), none, (.seq #[] 0), #[]⟩
noncomputable def o19 (P : Params) : Obj := ⟨.none, none, (.func (fx 1 "turn" "turn" 0 .none .none .none .none none .none .none 0)), #[]⟩
noncomputable def o20 (P : Params) : Obj := ⟨(.type "code"), none, (.fields #[(.str "turn" 189), (.str "turn" 190), (.str "/claim/cut.py" 191), (.int (2) 0), (.int (3) 0), (.int (0) 0), (.int (0) 0), (.int (3) 0), (.ref 15), (.bool true), (.int (181) 0), (.ref 16), .none, (.ref 17), (.ref 18), (.ref 19), (.int (195) 0), (.int (2) 0), (.str "/claim/cut.py" 196)]), #[]⟩
noncomputable def o21 (P : Params) : Obj := ⟨(.type "function"), none, (.func (fn 1 "turn" "turn" .none .none .none (.str "trueword.grids" 187) none (.ref 20) .none)), #[]⟩
noncomputable def o22 (P : Params) : Obj := ⟨(.type "tuple"), none, (.seq #[] 0), #[]⟩
noncomputable def o23 (P : Params) : Obj := ⟨.none, none, (.fields #[]), #[]⟩
noncomputable def o24 (P : Params) : Obj := ⟨(.type "tuple"), none, (.seq #[(.str "grid" 201), (.str "pays" 202), (.str "t" 203), (.str "s" 204)] 0), #[]⟩
noncomputable def o25 (P : Params) : Obj := ⟨(.type "tuple"), none, (.seq #[] 0), #[]⟩
noncomputable def o26 (P : Params) : Obj := ⟨.none, none, (.func (fx 2 "gain" "gain" 0 .none .none .none .none none .none .none 0)), #[]⟩
noncomputable def o27 (P : Params) : Obj := ⟨(.type "code"), none, (.fields #[(.str "gain" 198), (.str "gain" 199), (.str "/claim/cut.py" 200), (.int (4) 0), (.int (4) 0), (.int (0) 0), (.int (0) 0), (.int (3) 0), (.ref 22), (.bool true), (.int (181) 0), (.ref 23), .none, (.ref 24), (.ref 25), (.ref 26), (.int (205) 0), (.int (4) 0), (.str "/claim/cut.py" 206)]), #[]⟩
noncomputable def o28 (P : Params) : Obj := ⟨(.type "function"), none, (.func (fn 2 "gain" "gain" .none .none .none (.str "trueword.grids" 187) none (.ref 27) .none)), #[]⟩
noncomputable def o29 (P : Params) : Obj := ⟨(.type "tuple"), none, (.seq #[] 0), #[]⟩
noncomputable def o30 (P : Params) : Obj := ⟨.none, none, (.fields #[]), #[]⟩
noncomputable def o31 (P : Params) : Obj := ⟨(.type "tuple"), none, (.seq #[(.str "grid" 211), (.str "pays" 212), (.str "t" 213), (.str "s" 214), (.str "more" 215)] 0), #[]⟩
noncomputable def o32 (P : Params) : Obj := ⟨(.type "tuple"), none, (.seq #[] 0), #[]⟩
noncomputable def o33 (P : Params) : Obj := ⟨.none, none, (.func (fx 3 "first_gain" "first_gain" 0 .none .none .none .none none .none .none 0)), #[]⟩
noncomputable def o34 (P : Params) : Obj := ⟨(.type "code"), none, (.fields #[(.str "first_gain" 208), (.str "first_gain" 209), (.str "/claim/cut.py" 210), (.int (6) 0), (.int (2) 0), (.int (0) 0), (.int (0) 0), (.int (3) 0), (.ref 29), (.bool true), (.int (181) 0), (.ref 30), .none, (.ref 31), (.ref 32), (.ref 33), (.int (216) 0), (.int (6) 0), (.str "/claim/cut.py" 217)]), #[]⟩
noncomputable def o35 (P : Params) : Obj := ⟨(.type "function"), none, (.func (fn 3 "first_gain" "first_gain" .none .none .none (.str "trueword.grids" 187) none (.ref 34) .none)), #[]⟩
noncomputable def o36 (P : Params) : Obj := ⟨(.type "tuple"), none, (.seq #[] 0), #[]⟩
noncomputable def o37 (P : Params) : Obj := ⟨.none, none, (.fields #[]), #[]⟩
noncomputable def o38 (P : Params) : Obj := ⟨(.type "tuple"), none, (.seq #[(.str "walk" 224)] 0), #[]⟩
noncomputable def o39 (P : Params) : Obj := ⟨(.type "tuple"), none, (.seq #[] 0), #[]⟩
noncomputable def o40 (P : Params) : Obj := ⟨.none, none, (.func (fx 5 "total_of" "total_of" 0 .none .none .none .none none .none .none 0)), #[]⟩
noncomputable def o41 (P : Params) : Obj := ⟨(.type "code"), none, (.fields #[(.str "total_of" 221), (.str "total_of" 222), (.str "/claim/cut.py" 223), (.int (14) 0), (.int (1) 0), (.int (0) 0), (.int (0) 0), (.int (3) 0), (.ref 36), (.bool true), (.int (181) 0), (.ref 37), .none, (.ref 38), (.ref 39), (.ref 40), (.int (225) 0), (.int (14) 0), (.str "/claim/cut.py" 226)]), #[]⟩
noncomputable def o42 (P : Params) : Obj := ⟨(.type "function"), none, (.func (fn 5 "total_of" "total_of" .none .none .none (.str "trueword.rings" 219) none (.ref 41) .none)), #[]⟩
noncomputable def o43 (P : Params) : Obj := ⟨(.type "tuple"), none, (.seq #[] 0), #[]⟩
noncomputable def o44 (P : Params) : Obj := ⟨.none, none, (.fields #[]), #[]⟩
noncomputable def o45 (P : Params) : Obj := ⟨(.type "tuple"), none, (.seq #[(.str "walk" 231)] 0), #[]⟩
noncomputable def o46 (P : Params) : Obj := ⟨(.type "tuple"), none, (.seq #[] 0), #[]⟩
noncomputable def o47 (P : Params) : Obj := ⟨.none, none, (.func (fx 6 "words_of" "words_of" 0 .none .none .none .none none .none .none 0)), #[]⟩
noncomputable def o48 (P : Params) : Obj := ⟨(.type "code"), none, (.fields #[(.str "words_of" 228), (.str "words_of" 229), (.str "/claim/cut.py" 230), (.int (16) 0), (.int (1) 0), (.int (0) 0), (.int (0) 0), (.int (3) 0), (.ref 43), (.bool true), (.int (181) 0), (.ref 44), .none, (.ref 45), (.ref 46), (.ref 47), (.int (232) 0), (.int (16) 0), (.str "/claim/cut.py" 233)]), #[]⟩
noncomputable def o49 (P : Params) : Obj := ⟨(.type "function"), none, (.func (fn 6 "words_of" "words_of" .none .none .none (.str "trueword.rings" 219) none (.ref 48) .none)), #[]⟩
noncomputable def o50 (P : Params) : Obj := ⟨(.type "tuple"), none, (.seq #[] 0), #[]⟩
noncomputable def o51 (P : Params) : Obj := ⟨.none, none, (.fields #[]), #[]⟩
noncomputable def o52 (P : Params) : Obj := ⟨.none, none, (.func (fx 7 "walks_of_one_turn" "walks_of_one_turn" 0 .none .none .none .none none .none .none 0)), #[]⟩
noncomputable def o53 (P : Params) : Obj := ⟨(.type "code"), none, (.fields #[(.str "walks_of_one_turn" 235), (.str "walks_of_one_turn" 236), (.str "/claim/cut.py" 237), (.int (18) 0), (.int (2) 0), (.int (0) 0), (.int (0) 0), (.int (3) 0), (.ref 50), (.bool true), (.int (181) 0), (.ref 51), .none, .none, .none, (.ref 52), (.int (238) 0), (.int (18) 0), (.str "/claim/cut.py" 239)]), #[]⟩
noncomputable def o54 (P : Params) : Obj := ⟨(.type "function"), none, (.func (fn 7 "walks_of_one_turn" "walks_of_one_turn" .none .none .none (.str "trueword.rings" 219) none (.ref 53) .none)), #[]⟩
noncomputable def o55 (P : Params) : Obj := ⟨(.type "tuple"), none, (.seq #[] 0), #[]⟩
noncomputable def o56 (P : Params) : Obj := ⟨.none, none, (.fields #[]), #[]⟩
noncomputable def o57 (P : Params) : Obj := ⟨.none, none, (.func (fx 8 "least_to" "least_to" 0 .none .none .none .none none .none .none 0)), #[]⟩
noncomputable def o58 (P : Params) : Obj := ⟨(.type "code"), none, (.fields #[(.str "least_to" 241), (.str "least_to" 242), (.str "/claim/cut.py" 243), (.int (20) 0), (.int (3) 0), (.int (0) 0), (.int (0) 0), (.int (3) 0), (.ref 55), (.bool true), (.int (181) 0), (.ref 56), .none, .none, .none, (.ref 57), (.int (244) 0), (.int (20) 0), (.str "/claim/cut.py" 245)]), #[]⟩
noncomputable def o59 (P : Params) : Obj := ⟨(.type "function"), none, (.func (fn 8 "least_to" "least_to" .none .none .none (.str "trueword.rings" 219) none (.ref 58) .none)), #[]⟩
noncomputable def o60 (P : Params) : Obj := ⟨(.type "tuple"), none, (.seq #[] 0), #[]⟩
noncomputable def o61 (P : Params) : Obj := ⟨.none, none, (.fields #[]), #[]⟩
noncomputable def o62 (P : Params) : Obj := ⟨.none, none, (.func (fx 9 "lengthened" "lengthened" 0 .none .none .none .none none .none .none 0)), #[]⟩
noncomputable def o63 (P : Params) : Obj := ⟨(.type "code"), none, (.fields #[(.str "lengthened" 247), (.str "lengthened" 248), (.str "/claim/cut.py" 249), (.int (23) 0), (.int (2) 0), (.int (0) 0), (.int (0) 0), (.int (3) 0), (.ref 60), (.bool true), (.int (181) 0), (.ref 61), .none, .none, .none, (.ref 62), (.int (250) 0), (.int (23) 0), (.str "/claim/cut.py" 251)]), #[]⟩
noncomputable def o64 (P : Params) : Obj := ⟨(.type "function"), none, (.func (fn 9 "lengthened" "lengthened" .none .none .none (.str "trueword.rings" 219) none (.ref 63) .none)), #[]⟩
noncomputable def o65 (P : Params) : Obj := ⟨(.type "tuple"), none, (.seq #[] 0), #[]⟩
noncomputable def o66 (P : Params) : Obj := ⟨.none, none, (.fields #[]), #[]⟩
noncomputable def o67 (P : Params) : Obj := ⟨.none, none, (.func (fx 10 "after_a_turn" "after_a_turn" 0 .none .none .none .none none .none .none 0)), #[]⟩
noncomputable def o68 (P : Params) : Obj := ⟨(.type "code"), none, (.fields #[(.str "after_a_turn" 253), (.str "after_a_turn" 254), (.str "/claim/cut.py" 255), (.int (25) 0), (.int (3) 0), (.int (0) 0), (.int (0) 0), (.int (3) 0), (.ref 65), (.bool true), (.int (181) 0), (.ref 66), .none, .none, .none, (.ref 67), (.int (256) 0), (.int (25) 0), (.str "/claim/cut.py" 257)]), #[]⟩
noncomputable def o69 (P : Params) : Obj := ⟨(.type "function"), none, (.func (fn 10 "after_a_turn" "after_a_turn" .none .none .none (.str "trueword.rings" 219) none (.ref 68) .none)), #[]⟩
noncomputable def o70 (P : Params) : Obj := ⟨(.type "tuple"), none, (.seq #[] 0), #[]⟩
noncomputable def o71 (P : Params) : Obj := ⟨.none, none, (.fields #[]), #[]⟩
noncomputable def o72 (P : Params) : Obj := ⟨.none, none, (.func (fx 11 "has_honest" "has_honest" 0 .none .none .none .none none .none .none 0)), #[]⟩
noncomputable def o73 (P : Params) : Obj := ⟨(.type "code"), none, (.fields #[(.str "has_honest" 259), (.str "has_honest" 260), (.str "/claim/cut.py" 261), (.int (27) 0), (.int (1) 0), (.int (0) 0), (.int (0) 0), (.int (3) 0), (.ref 70), (.bool true), (.int (181) 0), (.ref 71), .none, .none, .none, (.ref 72), (.int (262) 0), (.int (27) 0), (.str "/claim/cut.py" 263)]), #[]⟩
noncomputable def o74 (P : Params) : Obj := ⟨(.type "function"), none, (.func (fn 11 "has_honest" "has_honest" .none .none .none (.str "trueword.rings" 219) none (.ref 73) .none)), #[]⟩
noncomputable def o75 (P : Params) : Obj := ⟨(.type "tuple"), none, (.seq #[] 0), #[]⟩
noncomputable def o76 (P : Params) : Obj := ⟨.none, none, (.fields #[]), #[]⟩
noncomputable def o77 (P : Params) : Obj := ⟨(.type "tuple"), none, (.seq #[(.str "rows" 268), (.str "s" 269), (.str "walks" 270)] 0), #[]⟩
noncomputable def o78 (P : Params) : Obj := ⟨(.type "tuple"), none, (.seq #[] 0), #[]⟩
noncomputable def o79 (P : Params) : Obj := ⟨.none, none, (.func (fx 12 "closed_below_zero" "closed_below_zero" 0 .none .none .none .none none .none .none 0)), #[]⟩
noncomputable def o80 (P : Params) : Obj := ⟨(.type "code"), none, (.fields #[(.str "closed_below_zero" 265), (.str "closed_below_zero" 266), (.str "/claim/cut.py" 267), (.int (32) 0), (.int (1) 0), (.int (0) 0), (.int (0) 0), (.int (3) 0), (.ref 75), (.bool true), (.int (181) 0), (.ref 76), .none, (.ref 77), (.ref 78), (.ref 79), (.int (271) 0), (.int (32) 0), (.str "/claim/cut.py" 272)]), #[]⟩
noncomputable def o81 (P : Params) : Obj := ⟨(.type "function"), none, (.func (fn 12 "closed_below_zero" "closed_below_zero" .none .none .none (.str "trueword.rings" 219) none (.ref 80) .none)), #[]⟩
noncomputable def o82 (P : Params) : Obj := ⟨(.type "tuple"), none, (.seq #[] 0), #[]⟩
noncomputable def o83 (P : Params) : Obj := ⟨.none, none, (.fields #[]), #[]⟩
noncomputable def o84 (P : Params) : Obj := ⟨.none, none, (.func (fx 13 "ring" "ring" 0 .none .none .none .none none .none .none 0)), #[]⟩
noncomputable def o85 (P : Params) : Obj := ⟨(.type "code"), none, (.fields #[(.str "ring" 274), (.str "ring" 275), (.str "/claim/cut.py" 276), (.int (37) 0), (.int (1) 0), (.int (0) 0), (.int (0) 0), (.int (3) 0), (.ref 82), (.bool true), (.int (181) 0), (.ref 83), .none, .none, .none, (.ref 84), (.int (277) 0), (.int (37) 0), (.str "/claim/cut.py" 278)]), #[]⟩
noncomputable def o86 (P : Params) : Obj := ⟨(.type "function"), none, (.func (fn 13 "ring" "ring" .none .none .none (.str "trueword.rings" 219) none (.ref 85) .none)), #[]⟩
noncomputable def o87 (P : Params) : Obj := ⟨(.type "tuple"), none, (.seq #[(.type "ValueError")] 0), #[]⟩
noncomputable def o88 (P : Params) : Obj := ⟨(.type "builtin_function_or_method"), none, (.fields #[(.builtin "type.__prepare__"), (.type "type")]), #[]⟩
noncomputable def o89 (P : Params) : Obj := ⟨(.type "dict"), none, (.dict #[en P "__module__" 289 (.str "trueword.errors" 280), en P "__qualname__" 291 (.str "TrueError" 290), en P "__firstlineno__" 293 (.int (48) 292), en P "__static_attributes__" 294 (.ref 94)] 4), #[]⟩
noncomputable def o90 (P : Params) : Obj := ⟨(.type "tuple"), none, (.seq #[] 0), #[]⟩
noncomputable def o91 (P : Params) : Obj := ⟨.none, none, (.fields #[]), #[]⟩
noncomputable def o92 (P : Params) : Obj := ⟨(.type "code"), none, (.fields #[(.str "TrueError" 284), (.str "TrueError" 285), (.str "/claim/cut.py" 286), (.int (48) 0), (.int (0) 0), (.int (0) 0), (.int (0) 0), (.int (0) 0), (.ref 90), (.bool false), (.int (181) 0), (.ref 91), .none, .none, .none, .none, (.int (287) 0), (.int (48) 0), (.str "/claim/cut.py" 288)]), #[]⟩
noncomputable def o93 (P : Params) : Obj := ⟨(.type "frame"), none, .plain, #[(some (.ref 92)), (some (.ref 3)), (some (.ref 89)), none, (some (.str "trueword.errors" 280)), none, (some (.ref 0))]⟩
noncomputable def o94 (P : Params) : Obj := ⟨(.type "tuple"), none, (.seq #[] 0), #[]⟩
noncomputable def o95 (P : Params) : Obj := ⟨(.type "dict"), none, (.dict #[en P "__module__" 289 (.str "trueword.errors" 280), en P "__firstlineno__" 293 (.int (48) 292), en P "__static_attributes__" 294 (.ref 94), en P "__weakref__" 296 (.ref 97), en P "__doc__" 297 .none] 3), #[]⟩
noncomputable def o96 (P : Params) : Obj := ⟨(.type "type"), none, (.cls ⟨"TrueError", [(.type "ValueError")], [(.ref 96), (.type "ValueError"), (.type "Exception"), (.type "BaseException"), (.type "object")], 95, "TrueError", true, [], [(.ref 109), (.ref 121), (.ref 133), (.ref 145)], false, none, false⟩), #[(some (.ref 87)), none, (some (.str "TrueError" 282)), (some (.str "TrueError" 290)), (some (.builtin "ValueError.__new__")), (some (.bool true))]⟩
noncomputable def o97 (P : Params) : Obj := ⟨(.type "getset_descriptor"), none, (.fields #[(.str "__weakref__" 295), (.ref 96), (.builtin "ExceptionGroup.__weakref__"), .none]), #[]⟩
noncomputable def o98 (P : Params) : Obj := ⟨(.type "super"), none, (.fields #[(.ref 96), (.ref 96), (.ref 96)]), #[]⟩
noncomputable def o99 (P : Params) : Obj := ⟨(.type "builtin_function_or_method"), none, (.fields #[(.builtin "object.__init_subclass__"), (.ref 96)]), #[]⟩
noncomputable def o100 (P : Params) : Obj := ⟨(.type "tuple"), none, (.seq #[(.ref 96)] 0), #[]⟩
noncomputable def o101 (P : Params) : Obj := ⟨(.type "builtin_function_or_method"), none, (.fields #[(.builtin "type.__prepare__"), (.type "type")]), #[]⟩
noncomputable def o102 (P : Params) : Obj := ⟨(.type "dict"), none, (.dict #[en P "__module__" 307 (.str "trueword.errors" 280), en P "__qualname__" 309 (.str "NoPays" 308), en P "__firstlineno__" 311 (.int (50) 310), en P "__static_attributes__" 312 (.ref 107)] 4), #[]⟩
noncomputable def o103 (P : Params) : Obj := ⟨(.type "tuple"), none, (.seq #[] 0), #[]⟩
noncomputable def o104 (P : Params) : Obj := ⟨.none, none, (.fields #[]), #[]⟩
noncomputable def o105 (P : Params) : Obj := ⟨(.type "code"), none, (.fields #[(.str "NoPays" 302), (.str "NoPays" 303), (.str "/claim/cut.py" 304), (.int (50) 0), (.int (0) 0), (.int (0) 0), (.int (0) 0), (.int (0) 0), (.ref 103), (.bool false), (.int (181) 0), (.ref 104), .none, .none, .none, .none, (.int (305) 0), (.int (50) 0), (.str "/claim/cut.py" 306)]), #[]⟩
noncomputable def o106 (P : Params) : Obj := ⟨(.type "frame"), none, .plain, #[(some (.ref 105)), (some (.ref 3)), (some (.ref 102)), none, (some (.str "trueword.errors" 280)), none, (some (.ref 0))]⟩
noncomputable def o107 (P : Params) : Obj := ⟨(.type "tuple"), none, (.seq #[] 0), #[]⟩
noncomputable def o108 (P : Params) : Obj := ⟨(.type "dict"), none, (.dict #[en P "__module__" 307 (.str "trueword.errors" 280), en P "__firstlineno__" 311 (.int (50) 310), en P "__static_attributes__" 312 (.ref 107), en P "__doc__" 313 .none] 2), #[]⟩
noncomputable def o109 (P : Params) : Obj := ⟨(.type "type"), none, (.cls ⟨"NoPays", [(.ref 96)], [(.ref 109), (.ref 96), (.type "ValueError"), (.type "Exception"), (.type "BaseException"), (.type "object")], 108, "NoPays", true, [], [], false, none, false⟩), #[(some (.ref 100)), none, (some (.str "NoPays" 300)), (some (.str "NoPays" 308)), (some (.builtin "ValueError.__new__")), (some (.bool true))]⟩
noncomputable def o110 (P : Params) : Obj := ⟨(.type "super"), none, (.fields #[(.ref 109), (.ref 109), (.ref 109)]), #[]⟩
noncomputable def o111 (P : Params) : Obj := ⟨(.type "builtin_function_or_method"), none, (.fields #[(.builtin "object.__init_subclass__"), (.ref 109)]), #[]⟩
noncomputable def o112 (P : Params) : Obj := ⟨(.type "tuple"), none, (.seq #[(.ref 96)] 0), #[]⟩
noncomputable def o113 (P : Params) : Obj := ⟨(.type "builtin_function_or_method"), none, (.fields #[(.builtin "type.__prepare__"), (.type "type")]), #[]⟩
noncomputable def o114 (P : Params) : Obj := ⟨(.type "dict"), none, (.dict #[en P "__module__" 323 (.str "trueword.errors" 280), en P "__qualname__" 325 (.str "NoHouse" 324), en P "__firstlineno__" 327 (.int (52) 326), en P "__static_attributes__" 328 (.ref 119)] 4), #[]⟩
noncomputable def o115 (P : Params) : Obj := ⟨(.type "tuple"), none, (.seq #[] 0), #[]⟩
noncomputable def o116 (P : Params) : Obj := ⟨.none, none, (.fields #[]), #[]⟩
noncomputable def o117 (P : Params) : Obj := ⟨(.type "code"), none, (.fields #[(.str "NoHouse" 318), (.str "NoHouse" 319), (.str "/claim/cut.py" 320), (.int (52) 0), (.int (0) 0), (.int (0) 0), (.int (0) 0), (.int (0) 0), (.ref 115), (.bool false), (.int (181) 0), (.ref 116), .none, .none, .none, .none, (.int (321) 0), (.int (52) 0), (.str "/claim/cut.py" 322)]), #[]⟩
noncomputable def o118 (P : Params) : Obj := ⟨(.type "frame"), none, .plain, #[(some (.ref 117)), (some (.ref 3)), (some (.ref 114)), none, (some (.str "trueword.errors" 280)), none, (some (.ref 0))]⟩
noncomputable def o119 (P : Params) : Obj := ⟨(.type "tuple"), none, (.seq #[] 0), #[]⟩
noncomputable def o120 (P : Params) : Obj := ⟨(.type "dict"), none, (.dict #[en P "__module__" 323 (.str "trueword.errors" 280), en P "__firstlineno__" 327 (.int (52) 326), en P "__static_attributes__" 328 (.ref 119), en P "__doc__" 329 .none] 2), #[]⟩
noncomputable def o121 (P : Params) : Obj := ⟨(.type "type"), none, (.cls ⟨"NoHouse", [(.ref 96)], [(.ref 121), (.ref 96), (.type "ValueError"), (.type "Exception"), (.type "BaseException"), (.type "object")], 120, "NoHouse", true, [], [], false, none, false⟩), #[(some (.ref 112)), none, (some (.str "NoHouse" 316)), (some (.str "NoHouse" 324)), (some (.builtin "ValueError.__new__")), (some (.bool true))]⟩
noncomputable def o122 (P : Params) : Obj := ⟨(.type "super"), none, (.fields #[(.ref 121), (.ref 121), (.ref 121)]), #[]⟩
noncomputable def o123 (P : Params) : Obj := ⟨(.type "builtin_function_or_method"), none, (.fields #[(.builtin "object.__init_subclass__"), (.ref 121)]), #[]⟩
noncomputable def o124 (P : Params) : Obj := ⟨(.type "tuple"), none, (.seq #[(.ref 96)] 0), #[]⟩
noncomputable def o125 (P : Params) : Obj := ⟨(.type "builtin_function_or_method"), none, (.fields #[(.builtin "type.__prepare__"), (.type "type")]), #[]⟩
noncomputable def o126 (P : Params) : Obj := ⟨(.type "dict"), none, (.dict #[en P "__module__" 339 (.str "trueword.errors" 280), en P "__qualname__" 341 (.str "NoMenu" 340), en P "__firstlineno__" 343 (.int (54) 342), en P "__static_attributes__" 344 (.ref 131)] 4), #[]⟩
noncomputable def o127 (P : Params) : Obj := ⟨(.type "tuple"), none, (.seq #[] 0), #[]⟩
noncomputable def o128 (P : Params) : Obj := ⟨.none, none, (.fields #[]), #[]⟩
noncomputable def o129 (P : Params) : Obj := ⟨(.type "code"), none, (.fields #[(.str "NoMenu" 334), (.str "NoMenu" 335), (.str "/claim/cut.py" 336), (.int (54) 0), (.int (0) 0), (.int (0) 0), (.int (0) 0), (.int (0) 0), (.ref 127), (.bool false), (.int (181) 0), (.ref 128), .none, .none, .none, .none, (.int (337) 0), (.int (54) 0), (.str "/claim/cut.py" 338)]), #[]⟩
noncomputable def o130 (P : Params) : Obj := ⟨(.type "frame"), none, .plain, #[(some (.ref 129)), (some (.ref 3)), (some (.ref 126)), none, (some (.str "trueword.errors" 280)), none, (some (.ref 0))]⟩
noncomputable def o131 (P : Params) : Obj := ⟨(.type "tuple"), none, (.seq #[] 0), #[]⟩
noncomputable def o132 (P : Params) : Obj := ⟨(.type "dict"), none, (.dict #[en P "__module__" 339 (.str "trueword.errors" 280), en P "__firstlineno__" 343 (.int (54) 342), en P "__static_attributes__" 344 (.ref 131), en P "__doc__" 345 .none] 2), #[]⟩
noncomputable def o133 (P : Params) : Obj := ⟨(.type "type"), none, (.cls ⟨"NoMenu", [(.ref 96)], [(.ref 133), (.ref 96), (.type "ValueError"), (.type "Exception"), (.type "BaseException"), (.type "object")], 132, "NoMenu", true, [], [], false, none, false⟩), #[(some (.ref 124)), none, (some (.str "NoMenu" 332)), (some (.str "NoMenu" 340)), (some (.builtin "ValueError.__new__")), (some (.bool true))]⟩
noncomputable def o134 (P : Params) : Obj := ⟨(.type "super"), none, (.fields #[(.ref 133), (.ref 133), (.ref 133)]), #[]⟩
noncomputable def o135 (P : Params) : Obj := ⟨(.type "builtin_function_or_method"), none, (.fields #[(.builtin "object.__init_subclass__"), (.ref 133)]), #[]⟩
noncomputable def o136 (P : Params) : Obj := ⟨(.type "tuple"), none, (.seq #[(.ref 96)] 0), #[]⟩
noncomputable def o137 (P : Params) : Obj := ⟨(.type "builtin_function_or_method"), none, (.fields #[(.builtin "type.__prepare__"), (.type "type")]), #[]⟩
noncomputable def o138 (P : Params) : Obj := ⟨(.type "dict"), none, (.dict #[en P "__module__" 355 (.str "trueword.errors" 280), en P "__qualname__" 357 (.str "NoWeight" 356), en P "__firstlineno__" 359 (.int (56) 358), en P "__static_attributes__" 360 (.ref 143)] 4), #[]⟩
noncomputable def o139 (P : Params) : Obj := ⟨(.type "tuple"), none, (.seq #[] 0), #[]⟩
noncomputable def o140 (P : Params) : Obj := ⟨.none, none, (.fields #[]), #[]⟩
noncomputable def o141 (P : Params) : Obj := ⟨(.type "code"), none, (.fields #[(.str "NoWeight" 350), (.str "NoWeight" 351), (.str "/claim/cut.py" 352), (.int (56) 0), (.int (0) 0), (.int (0) 0), (.int (0) 0), (.int (0) 0), (.ref 139), (.bool false), (.int (181) 0), (.ref 140), .none, .none, .none, .none, (.int (353) 0), (.int (56) 0), (.str "/claim/cut.py" 354)]), #[]⟩
noncomputable def o142 (P : Params) : Obj := ⟨(.type "frame"), none, .plain, #[(some (.ref 141)), (some (.ref 3)), (some (.ref 138)), none, (some (.str "trueword.errors" 280)), none, (some (.ref 0))]⟩
noncomputable def o143 (P : Params) : Obj := ⟨(.type "tuple"), none, (.seq #[] 0), #[]⟩
noncomputable def o144 (P : Params) : Obj := ⟨(.type "dict"), none, (.dict #[en P "__module__" 355 (.str "trueword.errors" 280), en P "__firstlineno__" 359 (.int (56) 358), en P "__static_attributes__" 360 (.ref 143), en P "__doc__" 361 .none] 2), #[]⟩
noncomputable def o145 (P : Params) : Obj := ⟨(.type "type"), none, (.cls ⟨"NoWeight", [(.ref 96)], [(.ref 145), (.ref 96), (.type "ValueError"), (.type "Exception"), (.type "BaseException"), (.type "object")], 144, "NoWeight", true, [], [], false, none, false⟩), #[(some (.ref 136)), none, (some (.str "NoWeight" 348)), (some (.str "NoWeight" 356)), (some (.builtin "ValueError.__new__")), (some (.bool true))]⟩
noncomputable def o146 (P : Params) : Obj := ⟨(.type "super"), none, (.fields #[(.ref 145), (.ref 145), (.ref 145)]), #[]⟩
noncomputable def o147 (P : Params) : Obj := ⟨(.type "builtin_function_or_method"), none, (.fields #[(.builtin "object.__init_subclass__"), (.ref 145)]), #[]⟩
noncomputable def t1 (P : Params) : BT := (((((((((((((((((((((((((((((((((((((((((((((((((((((((((((((((((((((((((((((((((((((((((((((((((((((((((((((((((((((((((((((((((((((((t0 P).set 3 fun _ => o3 P).set 12 fun _ => o12_1 P).ins 15 (o15 P)).ins 16 (o16 P)).ins 17 (o17 P)).ins 18 (o18 P)).ins 19 (o19 P)).ins 20 (o20 P)).ins 21 (o21 P)).ins 22 (o22 P)).ins 23 (o23 P)).ins 24 (o24 P)).ins 25 (o25 P)).ins 26 (o26 P)).ins 27 (o27 P)).ins 28 (o28 P)).ins 29 (o29 P)).ins 30 (o30 P)).ins 31 (o31 P)).ins 32 (o32 P)).ins 33 (o33 P)).ins 34 (o34 P)).ins 35 (o35 P)).ins 36 (o36 P)).ins 37 (o37 P)).ins 38 (o38 P)).ins 39 (o39 P)).ins 40 (o40 P)).ins 41 (o41 P)).ins 42 (o42 P)).ins 43 (o43 P)).ins 44 (o44 P)).ins 45 (o45 P)).ins 46 (o46 P)).ins 47 (o47 P)).ins 48 (o48 P)).ins 49 (o49 P)).ins 50 (o50 P)).ins 51 (o51 P)).ins 52 (o52 P)).ins 53 (o53 P)).ins 54 (o54 P)).ins 55 (o55 P)).ins 56 (o56 P)).ins 57 (o57 P)).ins 58 (o58 P)).ins 59 (o59 P)).ins 60 (o60 P)).ins 61 (o61 P)).ins 62 (o62 P)).ins 63 (o63 P)).ins 64 (o64 P)).ins 65 (o65 P)).ins 66 (o66 P)).ins 67 (o67 P)).ins 68 (o68 P)).ins 69 (o69 P)).ins 70 (o70 P)).ins 71 (o71 P)).ins 72 (o72 P)).ins 73 (o73 P)).ins 74 (o74 P)).ins 75 (o75 P)).ins 76 (o76 P)).ins 77 (o77 P)).ins 78 (o78 P)).ins 79 (o79 P)).ins 80 (o80 P)).ins 81 (o81 P)).ins 82 (o82 P)).ins 83 (o83 P)).ins 84 (o84 P)).ins 85 (o85 P)).ins 86 (o86 P)).ins 87 (o87 P)).ins 88 (o88 P)).ins 89 (o89 P)).ins 90 (o90 P)).ins 91 (o91 P)).ins 92 (o92 P)).ins 93 (o93 P)).ins 94 (o94 P)).ins 95 (o95 P)).ins 96 (o96 P)).ins 97 (o97 P)).ins 98 (o98 P)).ins 99 (o99 P)).ins 100 (o100 P)).ins 101 (o101 P)).ins 102 (o102 P)).ins 103 (o103 P)).ins 104 (o104 P)).ins 105 (o105 P)).ins 106 (o106 P)).ins 107 (o107 P)).ins 108 (o108 P)).ins 109 (o109 P)).ins 110 (o110 P)).ins 111 (o111 P)).ins 112 (o112 P)).ins 113 (o113 P)).ins 114 (o114 P)).ins 115 (o115 P)).ins 116 (o116 P)).ins 117 (o117 P)).ins 118 (o118 P)).ins 119 (o119 P)).ins 120 (o120 P)).ins 121 (o121 P)).ins 122 (o122 P)).ins 123 (o123 P)).ins 124 (o124 P)).ins 125 (o125 P)).ins 126 (o126 P)).ins 127 (o127 P)).ins 128 (o128 P)).ins 129 (o129 P)).ins 130 (o130 P)).ins 131 (o131 P)).ins 132 (o132 P)).ins 133 (o133 P)).ins 134 (o134 P)).ins 135 (o135 P)).ins 136 (o136 P)).ins 137 (o137 P)).ins 138 (o138 P)).ins 139 (o139 P)).ins 140 (o140 P)).ins 141 (o141 P)).ins 142 (o142 P)).ins 143 (o143 P)).ins 144 (o144 P)).ins 145 (o145 P)).ins 146 (o146 P)).ins 147 (o147 P)
noncomputable def o3_1 (P : Params) : Obj := ⟨(.type "dict"), none, (.dict #[en P "__name__" 165 (.str "law_trueword_k16_no_payments" 493), en P "__doc__" 166 .none, en P "__package__" 167 .none, en P "__loader__" 168 (.builtin "__main__.__loader__#opaque"), en P "__spec__" 169 .none, en P "__annotations__" 170 (.ref 6), en P "__builtins__" 171 (.ref 4), en P "__file__" 173 (.str "/claim/cut.py" 172), en P "__cached__" 174 .none, en P "turn" 197 (.ref 21), en P "gain" 207 (.ref 28), en P "first_gain" 218 (.ref 35), en P "total_of" 227 (.ref 42), en P "words_of" 234 (.ref 49), en P "walks_of_one_turn" 240 (.ref 54), en P "least_to" 246 (.ref 59), en P "lengthened" 252 (.ref 64), en P "after_a_turn" 258 (.ref 69), en P "has_honest" 264 (.ref 74), en P "closed_below_zero" 273 (.ref 81), en P "ring" 279 (.ref 86), en P "TrueError" 299 (.ref 96), en P "NoPays" 315 (.ref 109), en P "NoHouse" 331 (.ref 121), en P "NoMenu" 347 (.ref 133), en P "NoWeight" 363 (.ref 145), en P "NoShare" 379 (.ref 157), en P "NoRule" 395 (.ref 169), en P "NoRow" 411 (.ref 181), en P "NoStand" 427 (.ref 193), en P "NoWord" 443 (.ref 205), en P "refuse_ring" 452 (.ref 214), en P "lesser" 460 (.ref 221), en P "least_roads" 466 (.ref 226), en P "greatest" 474 (.ref 231), en P "mirrored_row" 480 (.ref 236), en P "mirrored" 486 (.ref 241), en P "least" 492 (.ref 246), en P "_law_cell" 502 (.ref 253), en P "_law_number" 510 (.ref 260), en P "_law_free" 516 (.ref 265), en P "_law_pays" 522 (.ref 270), en P "_law_priced" 539 (.ref 277), en P "_law_grid" 551 (.ref 284), en P "_law_honest" 562 (.ref 291)] 45), #[]⟩
noncomputable def o12_2 (P : Params) : Obj := ⟨.none, none, (.fields #[(.int (2) 0), (.int (0) 0), (.ref 20), (.int (4) 0), (.int (0) 0), (.ref 27), (.int (6) 0), (.int (0) 0), (.ref 34), (.int (14) 0), (.int (0) 0), (.ref 41), (.int (16) 0), (.int (0) 0), (.ref 48), (.int (18) 0), (.int (0) 0), (.ref 53), (.int (20) 0), (.int (0) 0), (.ref 58), (.int (23) 0), (.int (0) 0), (.ref 63), (.int (25) 0), (.int (0) 0), (.ref 68), (.int (27) 0), (.int (0) 0), (.ref 73), (.int (32) 0), (.int (0) 0), (.ref 80), (.int (37) 0), (.int (0) 0), (.ref 85), (.int (48) 0), (.int (0) 0), (.ref 92), (.int (50) 0), (.int (0) 0), (.ref 105), (.int (52) 0), (.int (0) 0), (.ref 117), (.int (54) 0), (.int (0) 0), (.ref 129), (.int (56) 0), (.int (0) 0), (.ref 141), (.int (58) 0), (.int (0) 0), (.ref 153), (.int (60) 0), (.int (0) 0), (.ref 165), (.int (62) 0), (.int (0) 0), (.ref 177), (.int (64) 0), (.int (0) 0), (.ref 189), (.int (66) 0), (.int (0) 0), (.ref 201), (.int (69) 0), (.int (0) 0), (.ref 213), (.int (72) 0), (.int (0) 0), (.ref 220), (.int (74) 0), (.int (0) 0), (.ref 225), (.int (79) 0), (.int (0) 0), (.ref 230), (.int (83) 0), (.int (0) 0), (.ref 235), (.int (85) 0), (.int (0) 0), (.ref 240), (.int (87) 0), (.int (0) 0), (.ref 245), (.int (92) 0), (.int (0) 0), (.ref 252), (.int (96) 0), (.int (0) 0), (.ref 259), (.int (104) 0), (.int (0) 0), (.ref 264), (.int (110) 0), (.int (0) 0), (.ref 269), (.int (112) 0), (.int (0) 0), (.ref 276), (.int (126) 0), (.int (0) 0), (.ref 283), (.int (136) 0), (.int (0) 0), (.ref 290)]), #[]⟩
noncomputable def o96_1 (P : Params) : Obj := ⟨(.type "type"), none, (.cls ⟨"TrueError", [(.type "ValueError")], [(.ref 96), (.type "ValueError"), (.type "Exception"), (.type "BaseException"), (.type "object")], 95, "TrueError", true, [], [(.ref 109), (.ref 121), (.ref 133), (.ref 145), (.ref 157), (.ref 169), (.ref 181), (.ref 193), (.ref 205)], false, none, false⟩), #[(some (.ref 87)), none, (some (.str "TrueError" 282)), (some (.str "TrueError" 290)), (some (.builtin "ValueError.__new__")), (some (.bool true))]⟩
noncomputable def o148 (P : Params) : Obj := ⟨(.type "tuple"), none, (.seq #[(.ref 96)] 0), #[]⟩
noncomputable def o149 (P : Params) : Obj := ⟨(.type "builtin_function_or_method"), none, (.fields #[(.builtin "type.__prepare__"), (.type "type")]), #[]⟩
noncomputable def o150 (P : Params) : Obj := ⟨(.type "dict"), none, (.dict #[en P "__module__" 371 (.str "trueword.errors" 280), en P "__qualname__" 373 (.str "NoShare" 372), en P "__firstlineno__" 375 (.int (58) 374), en P "__static_attributes__" 376 (.ref 155)] 4), #[]⟩
noncomputable def o151 (P : Params) : Obj := ⟨(.type "tuple"), none, (.seq #[] 0), #[]⟩
noncomputable def o152 (P : Params) : Obj := ⟨.none, none, (.fields #[]), #[]⟩
noncomputable def o153 (P : Params) : Obj := ⟨(.type "code"), none, (.fields #[(.str "NoShare" 366), (.str "NoShare" 367), (.str "/claim/cut.py" 368), (.int (58) 0), (.int (0) 0), (.int (0) 0), (.int (0) 0), (.int (0) 0), (.ref 151), (.bool false), (.int (181) 0), (.ref 152), .none, .none, .none, .none, (.int (369) 0), (.int (58) 0), (.str "/claim/cut.py" 370)]), #[]⟩
noncomputable def o154 (P : Params) : Obj := ⟨(.type "frame"), none, .plain, #[(some (.ref 153)), (some (.ref 3)), (some (.ref 150)), none, (some (.str "trueword.errors" 280)), none, (some (.ref 0))]⟩
noncomputable def o155 (P : Params) : Obj := ⟨(.type "tuple"), none, (.seq #[] 0), #[]⟩
noncomputable def o156 (P : Params) : Obj := ⟨(.type "dict"), none, (.dict #[en P "__module__" 371 (.str "trueword.errors" 280), en P "__firstlineno__" 375 (.int (58) 374), en P "__static_attributes__" 376 (.ref 155), en P "__doc__" 377 .none] 2), #[]⟩
noncomputable def o157 (P : Params) : Obj := ⟨(.type "type"), none, (.cls ⟨"NoShare", [(.ref 96)], [(.ref 157), (.ref 96), (.type "ValueError"), (.type "Exception"), (.type "BaseException"), (.type "object")], 156, "NoShare", true, [], [], false, none, false⟩), #[(some (.ref 148)), none, (some (.str "NoShare" 364)), (some (.str "NoShare" 372)), (some (.builtin "ValueError.__new__")), (some (.bool true))]⟩
noncomputable def o158 (P : Params) : Obj := ⟨(.type "super"), none, (.fields #[(.ref 157), (.ref 157), (.ref 157)]), #[]⟩
noncomputable def o159 (P : Params) : Obj := ⟨(.type "builtin_function_or_method"), none, (.fields #[(.builtin "object.__init_subclass__"), (.ref 157)]), #[]⟩
noncomputable def o160 (P : Params) : Obj := ⟨(.type "tuple"), none, (.seq #[(.ref 96)] 0), #[]⟩
noncomputable def o161 (P : Params) : Obj := ⟨(.type "builtin_function_or_method"), none, (.fields #[(.builtin "type.__prepare__"), (.type "type")]), #[]⟩
noncomputable def o162 (P : Params) : Obj := ⟨(.type "dict"), none, (.dict #[en P "__module__" 387 (.str "trueword.errors" 280), en P "__qualname__" 389 (.str "NoRule" 388), en P "__firstlineno__" 391 (.int (60) 390), en P "__static_attributes__" 392 (.ref 167)] 4), #[]⟩
noncomputable def o163 (P : Params) : Obj := ⟨(.type "tuple"), none, (.seq #[] 0), #[]⟩
noncomputable def o164 (P : Params) : Obj := ⟨.none, none, (.fields #[]), #[]⟩
noncomputable def o165 (P : Params) : Obj := ⟨(.type "code"), none, (.fields #[(.str "NoRule" 382), (.str "NoRule" 383), (.str "/claim/cut.py" 384), (.int (60) 0), (.int (0) 0), (.int (0) 0), (.int (0) 0), (.int (0) 0), (.ref 163), (.bool false), (.int (181) 0), (.ref 164), .none, .none, .none, .none, (.int (385) 0), (.int (60) 0), (.str "/claim/cut.py" 386)]), #[]⟩
noncomputable def o166 (P : Params) : Obj := ⟨(.type "frame"), none, .plain, #[(some (.ref 165)), (some (.ref 3)), (some (.ref 162)), none, (some (.str "trueword.errors" 280)), none, (some (.ref 0))]⟩
noncomputable def o167 (P : Params) : Obj := ⟨(.type "tuple"), none, (.seq #[] 0), #[]⟩
noncomputable def o168 (P : Params) : Obj := ⟨(.type "dict"), none, (.dict #[en P "__module__" 387 (.str "trueword.errors" 280), en P "__firstlineno__" 391 (.int (60) 390), en P "__static_attributes__" 392 (.ref 167), en P "__doc__" 393 .none] 2), #[]⟩
noncomputable def o169 (P : Params) : Obj := ⟨(.type "type"), none, (.cls ⟨"NoRule", [(.ref 96)], [(.ref 169), (.ref 96), (.type "ValueError"), (.type "Exception"), (.type "BaseException"), (.type "object")], 168, "NoRule", true, [], [], false, none, false⟩), #[(some (.ref 160)), none, (some (.str "NoRule" 380)), (some (.str "NoRule" 388)), (some (.builtin "ValueError.__new__")), (some (.bool true))]⟩
noncomputable def o170 (P : Params) : Obj := ⟨(.type "super"), none, (.fields #[(.ref 169), (.ref 169), (.ref 169)]), #[]⟩
noncomputable def o171 (P : Params) : Obj := ⟨(.type "builtin_function_or_method"), none, (.fields #[(.builtin "object.__init_subclass__"), (.ref 169)]), #[]⟩
noncomputable def o172 (P : Params) : Obj := ⟨(.type "tuple"), none, (.seq #[(.ref 96)] 0), #[]⟩
noncomputable def o173 (P : Params) : Obj := ⟨(.type "builtin_function_or_method"), none, (.fields #[(.builtin "type.__prepare__"), (.type "type")]), #[]⟩
noncomputable def o174 (P : Params) : Obj := ⟨(.type "dict"), none, (.dict #[en P "__module__" 403 (.str "trueword.errors" 280), en P "__qualname__" 405 (.str "NoRow" 404), en P "__firstlineno__" 407 (.int (62) 406), en P "__static_attributes__" 408 (.ref 179)] 4), #[]⟩
noncomputable def o175 (P : Params) : Obj := ⟨(.type "tuple"), none, (.seq #[] 0), #[]⟩
noncomputable def o176 (P : Params) : Obj := ⟨.none, none, (.fields #[]), #[]⟩
noncomputable def o177 (P : Params) : Obj := ⟨(.type "code"), none, (.fields #[(.str "NoRow" 398), (.str "NoRow" 399), (.str "/claim/cut.py" 400), (.int (62) 0), (.int (0) 0), (.int (0) 0), (.int (0) 0), (.int (0) 0), (.ref 175), (.bool false), (.int (181) 0), (.ref 176), .none, .none, .none, .none, (.int (401) 0), (.int (62) 0), (.str "/claim/cut.py" 402)]), #[]⟩
noncomputable def o178 (P : Params) : Obj := ⟨(.type "frame"), none, .plain, #[(some (.ref 177)), (some (.ref 3)), (some (.ref 174)), none, (some (.str "trueword.errors" 280)), none, (some (.ref 0))]⟩
noncomputable def o179 (P : Params) : Obj := ⟨(.type "tuple"), none, (.seq #[] 0), #[]⟩
noncomputable def o180 (P : Params) : Obj := ⟨(.type "dict"), none, (.dict #[en P "__module__" 403 (.str "trueword.errors" 280), en P "__firstlineno__" 407 (.int (62) 406), en P "__static_attributes__" 408 (.ref 179), en P "__doc__" 409 .none] 2), #[]⟩
noncomputable def o181 (P : Params) : Obj := ⟨(.type "type"), none, (.cls ⟨"NoRow", [(.ref 96)], [(.ref 181), (.ref 96), (.type "ValueError"), (.type "Exception"), (.type "BaseException"), (.type "object")], 180, "NoRow", true, [], [], false, none, false⟩), #[(some (.ref 172)), none, (some (.str "NoRow" 396)), (some (.str "NoRow" 404)), (some (.builtin "ValueError.__new__")), (some (.bool true))]⟩
noncomputable def o182 (P : Params) : Obj := ⟨(.type "super"), none, (.fields #[(.ref 181), (.ref 181), (.ref 181)]), #[]⟩
noncomputable def o183 (P : Params) : Obj := ⟨(.type "builtin_function_or_method"), none, (.fields #[(.builtin "object.__init_subclass__"), (.ref 181)]), #[]⟩
noncomputable def o184 (P : Params) : Obj := ⟨(.type "tuple"), none, (.seq #[(.ref 96)] 0), #[]⟩
noncomputable def o185 (P : Params) : Obj := ⟨(.type "builtin_function_or_method"), none, (.fields #[(.builtin "type.__prepare__"), (.type "type")]), #[]⟩
noncomputable def o186 (P : Params) : Obj := ⟨(.type "dict"), none, (.dict #[en P "__module__" 419 (.str "trueword.errors" 280), en P "__qualname__" 421 (.str "NoStand" 420), en P "__firstlineno__" 423 (.int (64) 422), en P "__static_attributes__" 424 (.ref 191)] 4), #[]⟩
noncomputable def o187 (P : Params) : Obj := ⟨(.type "tuple"), none, (.seq #[] 0), #[]⟩
noncomputable def o188 (P : Params) : Obj := ⟨.none, none, (.fields #[]), #[]⟩
noncomputable def o189 (P : Params) : Obj := ⟨(.type "code"), none, (.fields #[(.str "NoStand" 414), (.str "NoStand" 415), (.str "/claim/cut.py" 416), (.int (64) 0), (.int (0) 0), (.int (0) 0), (.int (0) 0), (.int (0) 0), (.ref 187), (.bool false), (.int (181) 0), (.ref 188), .none, .none, .none, .none, (.int (417) 0), (.int (64) 0), (.str "/claim/cut.py" 418)]), #[]⟩
noncomputable def o190 (P : Params) : Obj := ⟨(.type "frame"), none, .plain, #[(some (.ref 189)), (some (.ref 3)), (some (.ref 186)), none, (some (.str "trueword.errors" 280)), none, (some (.ref 0))]⟩
noncomputable def o191 (P : Params) : Obj := ⟨(.type "tuple"), none, (.seq #[] 0), #[]⟩
noncomputable def o192 (P : Params) : Obj := ⟨(.type "dict"), none, (.dict #[en P "__module__" 419 (.str "trueword.errors" 280), en P "__firstlineno__" 423 (.int (64) 422), en P "__static_attributes__" 424 (.ref 191), en P "__doc__" 425 .none] 2), #[]⟩
noncomputable def o193 (P : Params) : Obj := ⟨(.type "type"), none, (.cls ⟨"NoStand", [(.ref 96)], [(.ref 193), (.ref 96), (.type "ValueError"), (.type "Exception"), (.type "BaseException"), (.type "object")], 192, "NoStand", true, [], [], false, none, false⟩), #[(some (.ref 184)), none, (some (.str "NoStand" 412)), (some (.str "NoStand" 420)), (some (.builtin "ValueError.__new__")), (some (.bool true))]⟩
noncomputable def o194 (P : Params) : Obj := ⟨(.type "super"), none, (.fields #[(.ref 193), (.ref 193), (.ref 193)]), #[]⟩
noncomputable def o195 (P : Params) : Obj := ⟨(.type "builtin_function_or_method"), none, (.fields #[(.builtin "object.__init_subclass__"), (.ref 193)]), #[]⟩
noncomputable def o196 (P : Params) : Obj := ⟨(.type "tuple"), none, (.seq #[(.ref 96)] 0), #[]⟩
noncomputable def o197 (P : Params) : Obj := ⟨(.type "builtin_function_or_method"), none, (.fields #[(.builtin "type.__prepare__"), (.type "type")]), #[]⟩
noncomputable def o198 (P : Params) : Obj := ⟨(.type "dict"), none, (.dict #[en P "__module__" 435 (.str "trueword.errors" 280), en P "__qualname__" 437 (.str "NoWord" 436), en P "__firstlineno__" 439 (.int (66) 438), en P "__static_attributes__" 440 (.ref 203)] 4), #[]⟩
noncomputable def o199 (P : Params) : Obj := ⟨(.type "tuple"), none, (.seq #[] 0), #[]⟩
noncomputable def o200 (P : Params) : Obj := ⟨.none, none, (.fields #[]), #[]⟩
noncomputable def o201 (P : Params) : Obj := ⟨(.type "code"), none, (.fields #[(.str "NoWord" 430), (.str "NoWord" 431), (.str "/claim/cut.py" 432), (.int (66) 0), (.int (0) 0), (.int (0) 0), (.int (0) 0), (.int (0) 0), (.ref 199), (.bool false), (.int (181) 0), (.ref 200), .none, .none, .none, .none, (.int (433) 0), (.int (66) 0), (.str "/claim/cut.py" 434)]), #[]⟩
noncomputable def o202 (P : Params) : Obj := ⟨(.type "frame"), none, .plain, #[(some (.ref 201)), (some (.ref 3)), (some (.ref 198)), none, (some (.str "trueword.errors" 280)), none, (some (.ref 0))]⟩
noncomputable def o203 (P : Params) : Obj := ⟨(.type "tuple"), none, (.seq #[] 0), #[]⟩
noncomputable def o204 (P : Params) : Obj := ⟨(.type "dict"), none, (.dict #[en P "__module__" 435 (.str "trueword.errors" 280), en P "__firstlineno__" 439 (.int (66) 438), en P "__static_attributes__" 440 (.ref 203), en P "__doc__" 441 .none] 2), #[]⟩
noncomputable def o205 (P : Params) : Obj := ⟨(.type "type"), none, (.cls ⟨"NoWord", [(.ref 96)], [(.ref 205), (.ref 96), (.type "ValueError"), (.type "Exception"), (.type "BaseException"), (.type "object")], 204, "NoWord", true, [], [], false, none, false⟩), #[(some (.ref 196)), none, (some (.str "NoWord" 428)), (some (.str "NoWord" 436)), (some (.builtin "ValueError.__new__")), (some (.bool true))]⟩
noncomputable def o206 (P : Params) : Obj := ⟨(.type "super"), none, (.fields #[(.ref 205), (.ref 205), (.ref 205)]), #[]⟩
noncomputable def o207 (P : Params) : Obj := ⟨(.type "builtin_function_or_method"), none, (.fields #[(.builtin "object.__init_subclass__"), (.ref 205)]), #[]⟩
noncomputable def o208 (P : Params) : Obj := ⟨(.type "tuple"), none, (.seq #[] 0), #[]⟩
noncomputable def o209 (P : Params) : Obj := ⟨.none, none, (.fields #[]), #[]⟩
noncomputable def o210 (P : Params) : Obj := ⟨(.type "tuple"), none, (.seq #[(.str "grid" 449)] 0), #[]⟩
noncomputable def o211 (P : Params) : Obj := ⟨(.type "tuple"), none, (.seq #[] 0), #[]⟩
noncomputable def o212 (P : Params) : Obj := ⟨.none, none, (.func (fx 26 "refuse_ring" "refuse_ring" 0 .none .none .none .none none .none .none 0)), #[]⟩
noncomputable def o213 (P : Params) : Obj := ⟨(.type "code"), none, (.fields #[(.str "refuse_ring" 446), (.str "refuse_ring" 447), (.str "/claim/cut.py" 448), (.int (69) 0), (.int (1) 0), (.int (0) 0), (.int (0) 0), (.int (3) 0), (.ref 208), (.bool true), (.int (181) 0), (.ref 209), .none, (.ref 210), (.ref 211), (.ref 212), (.int (450) 0), (.int (69) 0), (.str "/claim/cut.py" 451)]), #[]⟩
noncomputable def o214 (P : Params) : Obj := ⟨(.type "function"), none, (.func (fn 26 "refuse_ring" "refuse_ring" .none .none .none (.str "trueword.roads" 444) none (.ref 213) .none)), #[]⟩
noncomputable def o215 (P : Params) : Obj := ⟨(.type "tuple"), none, (.seq #[] 0), #[]⟩
noncomputable def o216 (P : Params) : Obj := ⟨.none, none, (.fields #[]), #[]⟩
noncomputable def o217 (P : Params) : Obj := ⟨(.type "tuple"), none, (.seq #[(.str "walk" 456), (.str "longer" 457)] 0), #[]⟩
noncomputable def o218 (P : Params) : Obj := ⟨(.type "tuple"), none, (.seq #[] 0), #[]⟩
noncomputable def o219 (P : Params) : Obj := ⟨.none, none, (.func (fx 27 "lesser" "lesser" 0 .none .none .none .none none .none .none 0)), #[]⟩
noncomputable def o220 (P : Params) : Obj := ⟨(.type "code"), none, (.fields #[(.str "lesser" 453), (.str "lesser" 454), (.str "/claim/cut.py" 455), (.int (72) 0), (.int (2) 0), (.int (0) 0), (.int (0) 0), (.int (3) 0), (.ref 215), (.bool true), (.int (181) 0), (.ref 216), .none, (.ref 217), (.ref 218), (.ref 219), (.int (458) 0), (.int (72) 0), (.str "/claim/cut.py" 459)]), #[]⟩
noncomputable def o221 (P : Params) : Obj := ⟨(.type "function"), none, (.func (fn 27 "lesser" "lesser" .none .none .none (.str "trueword.roads" 444) none (.ref 220) .none)), #[]⟩
noncomputable def o222 (P : Params) : Obj := ⟨(.type "tuple"), none, (.seq #[] 0), #[]⟩
noncomputable def o223 (P : Params) : Obj := ⟨.none, none, (.fields #[]), #[]⟩
noncomputable def o224 (P : Params) : Obj := ⟨.none, none, (.func (fx 28 "least_roads" "least_roads" 0 .none .none .none .none none .none .none 0)), #[]⟩
noncomputable def o225 (P : Params) : Obj := ⟨(.type "code"), none, (.fields #[(.str "least_roads" 461), (.str "least_roads" 462), (.str "/claim/cut.py" 463), (.int (74) 0), (.int (2) 0), (.int (0) 0), (.int (0) 0), (.int (3) 0), (.ref 222), (.bool true), (.int (181) 0), (.ref 223), .none, .none, .none, (.ref 224), (.int (464) 0), (.int (74) 0), (.str "/claim/cut.py" 465)]), #[]⟩
noncomputable def o226 (P : Params) : Obj := ⟨(.type "function"), none, (.func (fn 28 "least_roads" "least_roads" .none .none .none (.str "trueword.roads" 444) none (.ref 225) .none)), #[]⟩
noncomputable def o227 (P : Params) : Obj := ⟨(.type "tuple"), none, (.seq #[] 0), #[]⟩
noncomputable def o228 (P : Params) : Obj := ⟨.none, none, (.fields #[]), #[]⟩
noncomputable def o229 (P : Params) : Obj := ⟨.none, none, (.func (fx 30 "greatest" "greatest" 0 .none .none .none .none none .none .none 0)), #[]⟩
noncomputable def o230 (P : Params) : Obj := ⟨(.type "code"), none, (.fields #[(.str "greatest" 469), (.str "greatest" 470), (.str "/claim/cut.py" 471), (.int (79) 0), (.int (1) 0), (.int (0) 0), (.int (0) 0), (.int (3) 0), (.ref 227), (.bool true), (.int (181) 0), (.ref 228), .none, .none, .none, (.ref 229), (.int (472) 0), (.int (79) 0), (.str "/claim/cut.py" 473)]), #[]⟩
noncomputable def o231 (P : Params) : Obj := ⟨(.type "function"), none, (.func (fn 30 "greatest" "greatest" .none .none .none (.str "trueword.pays" 467) none (.ref 230) .none)), #[]⟩
noncomputable def o232 (P : Params) : Obj := ⟨(.type "tuple"), none, (.seq #[] 0), #[]⟩
noncomputable def o233 (P : Params) : Obj := ⟨.none, none, (.fields #[]), #[]⟩
noncomputable def o234 (P : Params) : Obj := ⟨.none, none, (.func (fx 31 "mirrored_row" "mirrored_row" 0 .none .none .none .none none .none .none 0)), #[]⟩
noncomputable def o235 (P : Params) : Obj := ⟨(.type "code"), none, (.fields #[(.str "mirrored_row" 475), (.str "mirrored_row" 476), (.str "/claim/cut.py" 477), (.int (83) 0), (.int (2) 0), (.int (0) 0), (.int (0) 0), (.int (3) 0), (.ref 232), (.bool true), (.int (181) 0), (.ref 233), .none, .none, .none, (.ref 234), (.int (478) 0), (.int (83) 0), (.str "/claim/cut.py" 479)]), #[]⟩
noncomputable def o236 (P : Params) : Obj := ⟨(.type "function"), none, (.func (fn 31 "mirrored_row" "mirrored_row" .none .none .none (.str "trueword.pays" 467) none (.ref 235) .none)), #[]⟩
noncomputable def o237 (P : Params) : Obj := ⟨(.type "tuple"), none, (.seq #[] 0), #[]⟩
noncomputable def o238 (P : Params) : Obj := ⟨.none, none, (.fields #[]), #[]⟩
noncomputable def o239 (P : Params) : Obj := ⟨.none, none, (.func (fx 32 "mirrored" "mirrored" 0 .none .none .none .none none .none .none 0)), #[]⟩
noncomputable def o240 (P : Params) : Obj := ⟨(.type "code"), none, (.fields #[(.str "mirrored" 481), (.str "mirrored" 482), (.str "/claim/cut.py" 483), (.int (85) 0), (.int (1) 0), (.int (0) 0), (.int (0) 0), (.int (3) 0), (.ref 237), (.bool true), (.int (181) 0), (.ref 238), .none, .none, .none, (.ref 239), (.int (484) 0), (.int (85) 0), (.str "/claim/cut.py" 485)]), #[]⟩
noncomputable def o241 (P : Params) : Obj := ⟨(.type "function"), none, (.func (fn 32 "mirrored" "mirrored" .none .none .none (.str "trueword.pays" 467) none (.ref 240) .none)), #[]⟩
noncomputable def o242 (P : Params) : Obj := ⟨(.type "tuple"), none, (.seq #[] 0), #[]⟩
noncomputable def o243 (P : Params) : Obj := ⟨.none, none, (.fields #[]), #[]⟩
noncomputable def o244 (P : Params) : Obj := ⟨.none, none, (.func (fx 33 "least" "least" 0 .none .none .none .none none .none .none 0)), #[]⟩
noncomputable def o245 (P : Params) : Obj := ⟨(.type "code"), none, (.fields #[(.str "least" 487), (.str "least" 488), (.str "/claim/cut.py" 489), (.int (87) 0), (.int (1) 0), (.int (0) 0), (.int (0) 0), (.int (3) 0), (.ref 242), (.bool true), (.int (181) 0), (.ref 243), .none, .none, .none, (.ref 244), (.int (490) 0), (.int (87) 0), (.str "/claim/cut.py" 491)]), #[]⟩
noncomputable def o246 (P : Params) : Obj := ⟨(.type "function"), none, (.func (fn 33 "least" "least" .none .none .none (.str "trueword.pays" 467) none (.ref 245) .none)), #[]⟩
noncomputable def o247 (P : Params) : Obj := ⟨(.type "tuple"), none, (.seq #[] 0), #[]⟩
noncomputable def o248 (P : Params) : Obj := ⟨.none, none, (.fields #[]), #[]⟩
noncomputable def o249 (P : Params) : Obj := ⟨(.type "tuple"), none, (.seq #[(.str "script" 498), (.str "k" 499)] 0), #[]⟩
noncomputable def o250 (P : Params) : Obj := ⟨(.type "tuple"), none, (.seq #[] 0), #[]⟩
noncomputable def o251 (P : Params) : Obj := ⟨.none, none, (.func (fx 35 "_law_cell" "_law_cell" 0 .none .none .none .none none .none .none 0)), #[]⟩
noncomputable def o252 (P : Params) : Obj := ⟨(.type "code"), none, (.fields #[(.str "_law_cell" 495), (.str "_law_cell" 496), (.str "/claim/cut.py" 497), (.int (92) 0), (.int (2) 0), (.int (0) 0), (.int (0) 0), (.int (3) 0), (.ref 247), (.bool true), (.int (181) 0), (.ref 248), .none, (.ref 249), (.ref 250), (.ref 251), (.int (500) 0), (.int (92) 0), (.str "/claim/cut.py" 501)]), #[]⟩
noncomputable def o253 (P : Params) : Obj := ⟨(.type "function"), none, (.func (fn 35 "_law_cell" "_law_cell" .none .none .none (.str "law_trueword_k16_no_payments" 493) none (.ref 252) .none)), #[]⟩
noncomputable def o254 (P : Params) : Obj := ⟨(.type "tuple"), none, (.seq #[] 0), #[]⟩
noncomputable def o255 (P : Params) : Obj := ⟨.none, none, (.fields #[]), #[]⟩
noncomputable def o256 (P : Params) : Obj := ⟨(.type "tuple"), none, (.seq #[(.str "cell" 506), (.str "top" 507)] 0), #[]⟩
noncomputable def o257 (P : Params) : Obj := ⟨(.type "tuple"), none, (.seq #[] 0), #[]⟩
noncomputable def o258 (P : Params) : Obj := ⟨.none, none, (.func (fx 36 "_law_number" "_law_number" 0 .none .none .none .none none .none .none 0)), #[]⟩
noncomputable def o259 (P : Params) : Obj := ⟨(.type "code"), none, (.fields #[(.str "_law_number" 503), (.str "_law_number" 504), (.str "/claim/cut.py" 505), (.int (96) 0), (.int (2) 0), (.int (0) 0), (.int (0) 0), (.int (3) 0), (.ref 254), (.bool true), (.int (181) 0), (.ref 255), .none, (.ref 256), (.ref 257), (.ref 258), (.int (508) 0), (.int (96) 0), (.str "/claim/cut.py" 509)]), #[]⟩
noncomputable def o260 (P : Params) : Obj := ⟨(.type "function"), none, (.func (fn 36 "_law_number" "_law_number" .none .none .none (.str "law_trueword_k16_no_payments" 493) none (.ref 259) .none)), #[]⟩
noncomputable def o261 (P : Params) : Obj := ⟨(.type "tuple"), none, (.seq #[] 0), #[]⟩
noncomputable def o262 (P : Params) : Obj := ⟨.none, none, (.fields #[]), #[]⟩
noncomputable def o263 (P : Params) : Obj := ⟨.none, none, (.func (fx 37 "_law_free" "_law_free" 0 .none .none .none .none none .none .none 0)), #[]⟩
noncomputable def o264 (P : Params) : Obj := ⟨(.type "code"), none, (.fields #[(.str "_law_free" 511), (.str "_law_free" 512), (.str "/claim/cut.py" 513), (.int (104) 0), (.int (2) 0), (.int (0) 0), (.int (0) 0), (.int (3) 0), (.ref 261), (.bool true), (.int (181) 0), (.ref 262), .none, .none, .none, (.ref 263), (.int (514) 0), (.int (104) 0), (.str "/claim/cut.py" 515)]), #[]⟩
noncomputable def o265 (P : Params) : Obj := ⟨(.type "function"), none, (.func (fn 37 "_law_free" "_law_free" .none .none .none (.str "law_trueword_k16_no_payments" 493) none (.ref 264) .none)), #[]⟩
noncomputable def o266 (P : Params) : Obj := ⟨(.type "tuple"), none, (.seq #[] 0), #[]⟩
noncomputable def o267 (P : Params) : Obj := ⟨.none, none, (.fields #[]), #[]⟩
noncomputable def o268 (P : Params) : Obj := ⟨.none, none, (.func (fx 38 "_law_pays" "_law_pays" 0 .none .none .none .none none .none .none 0)), #[]⟩
noncomputable def o269 (P : Params) : Obj := ⟨(.type "code"), none, (.fields #[(.str "_law_pays" 517), (.str "_law_pays" 518), (.str "/claim/cut.py" 519), (.int (110) 0), (.int (2) 0), (.int (0) 0), (.int (0) 0), (.int (3) 0), (.ref 266), (.bool true), (.int (181) 0), (.ref 267), .none, .none, .none, (.ref 268), (.int (520) 0), (.int (110) 0), (.str "/claim/cut.py" 521)]), #[]⟩
noncomputable def o270 (P : Params) : Obj := ⟨(.type "function"), none, (.func (fn 38 "_law_pays" "_law_pays" .none .none .none (.str "law_trueword_k16_no_payments" 493) none (.ref 269) .none)), #[]⟩
noncomputable def o271 (P : Params) : Obj := ⟨(.type "tuple"), none, (.seq #[] 0), #[]⟩
noncomputable def o272 (P : Params) : Obj := ⟨.none, none, (.fields #[]), #[]⟩
noncomputable def o273 (P : Params) : Obj := ⟨(.type "tuple"), none, (.seq #[(.str "script" 526), (.str "many" 527), (.str "pays" 528), (.str "grid" 529), (.str "t" 530), (.str "cell" 531), (.str "own" 532), (.str "row" 533), (.str "s" 534), (.str "slack" 535), (.str "told" 536)] 0), #[]⟩
noncomputable def o274 (P : Params) : Obj := ⟨(.type "tuple"), none, (.seq #[] 0), #[]⟩
noncomputable def o275 (P : Params) : Obj := ⟨.none, none, (.func (fx 39 "_law_priced" "_law_priced" 0 .none .none .none .none none .none .none 0)), #[]⟩
noncomputable def o276 (P : Params) : Obj := ⟨(.type "code"), none, (.fields #[(.str "_law_priced" 523), (.str "_law_priced" 524), (.str "/claim/cut.py" 525), (.int (112) 0), (.int (2) 0), (.int (0) 0), (.int (0) 0), (.int (3) 0), (.ref 271), (.bool true), (.int (181) 0), (.ref 272), .none, (.ref 273), (.ref 274), (.ref 275), (.int (537) 0), (.int (112) 0), (.str "/claim/cut.py" 538)]), #[]⟩
noncomputable def o277 (P : Params) : Obj := ⟨(.type "function"), none, (.func (fn 39 "_law_priced" "_law_priced" .none .none .none (.str "law_trueword_k16_no_payments" 493) none (.ref 276) .none)), #[]⟩
noncomputable def o278 (P : Params) : Obj := ⟨(.type "tuple"), none, (.seq #[] 0), #[]⟩
noncomputable def o279 (P : Params) : Obj := ⟨.none, none, (.fields #[]), #[]⟩
noncomputable def o280 (P : Params) : Obj := ⟨(.type "tuple"), none, (.seq #[(.str "script" 543), (.str "top" 544), (.str "many" 545), (.str "way" 546), (.str "grid" 547), (.str "spot" 548)] 0), #[]⟩
noncomputable def o281 (P : Params) : Obj := ⟨(.type "tuple"), none, (.seq #[] 0), #[]⟩
noncomputable def o282 (P : Params) : Obj := ⟨.none, none, (.func (fx 40 "_law_grid" "_law_grid" 0 .none .none .none .none none .none .none 0)), #[]⟩
noncomputable def o283 (P : Params) : Obj := ⟨(.type "code"), none, (.fields #[(.str "_law_grid" 540), (.str "_law_grid" 541), (.str "/claim/cut.py" 542), (.int (126) 0), (.int (2) 0), (.int (0) 0), (.int (0) 0), (.int (3) 0), (.ref 278), (.bool true), (.int (181) 0), (.ref 279), .none, (.ref 280), (.ref 281), (.ref 282), (.int (549) 0), (.int (126) 0), (.str "/claim/cut.py" 550)]), #[]⟩
noncomputable def o284 (P : Params) : Obj := ⟨(.type "function"), none, (.func (fn 40 "_law_grid" "_law_grid" .none .none .none (.str "law_trueword_k16_no_payments" 493) none (.ref 283) .none)), #[]⟩
noncomputable def o285 (P : Params) : Obj := ⟨(.type "tuple"), none, (.seq #[] 0), #[]⟩
noncomputable def o286 (P : Params) : Obj := ⟨.none, none, (.fields #[]), #[]⟩
noncomputable def o287 (P : Params) : Obj := ⟨(.type "tuple"), none, (.seq #[(.str "grid" 555), (.str "pays" 556), (.str "t" 557), (.str "s" 558), (.str "more" 559)] 0), #[]⟩
noncomputable def o288 (P : Params) : Obj := ⟨(.type "tuple"), none, (.seq #[] 0), #[]⟩
noncomputable def o289 (P : Params) : Obj := ⟨.none, none, (.func (fx 41 "_law_honest" "_law_honest" 0 .none .none .none .none none .none .none 0)), #[]⟩
noncomputable def o290 (P : Params) : Obj := ⟨(.type "code"), none, (.fields #[(.str "_law_honest" 552), (.str "_law_honest" 553), (.str "/claim/cut.py" 554), (.int (136) 0), (.int (2) 0), (.int (0) 0), (.int (0) 0), (.int (3) 0), (.ref 285), (.bool true), (.int (181) 0), (.ref 286), .none, (.ref 287), (.ref 288), (.ref 289), (.int (560) 0), (.int (136) 0), (.str "/claim/cut.py" 561)]), #[]⟩
noncomputable def o291 (P : Params) : Obj := ⟨(.type "function"), none, (.func (fn 41 "_law_honest" "_law_honest" .none .none .none (.str "law_trueword_k16_no_payments" 493) none (.ref 290) .none)), #[]⟩
noncomputable def t2 (P : Params) : BT := (((((((((((((((((((((((((((((((((((((((((((((((((((((((((((((((((((((((((((((((((((((((((((((((((((((((((((((((((((((((((((((((((((((((((((((((((((t1 P).set 3 fun _ => o3_1 P).set 12 fun _ => o12_2 P).set 96 fun _ => o96_1 P).ins 148 (o148 P)).ins 149 (o149 P)).ins 150 (o150 P)).ins 151 (o151 P)).ins 152 (o152 P)).ins 153 (o153 P)).ins 154 (o154 P)).ins 155 (o155 P)).ins 156 (o156 P)).ins 157 (o157 P)).ins 158 (o158 P)).ins 159 (o159 P)).ins 160 (o160 P)).ins 161 (o161 P)).ins 162 (o162 P)).ins 163 (o163 P)).ins 164 (o164 P)).ins 165 (o165 P)).ins 166 (o166 P)).ins 167 (o167 P)).ins 168 (o168 P)).ins 169 (o169 P)).ins 170 (o170 P)).ins 171 (o171 P)).ins 172 (o172 P)).ins 173 (o173 P)).ins 174 (o174 P)).ins 175 (o175 P)).ins 176 (o176 P)).ins 177 (o177 P)).ins 178 (o178 P)).ins 179 (o179 P)).ins 180 (o180 P)).ins 181 (o181 P)).ins 182 (o182 P)).ins 183 (o183 P)).ins 184 (o184 P)).ins 185 (o185 P)).ins 186 (o186 P)).ins 187 (o187 P)).ins 188 (o188 P)).ins 189 (o189 P)).ins 190 (o190 P)).ins 191 (o191 P)).ins 192 (o192 P)).ins 193 (o193 P)).ins 194 (o194 P)).ins 195 (o195 P)).ins 196 (o196 P)).ins 197 (o197 P)).ins 198 (o198 P)).ins 199 (o199 P)).ins 200 (o200 P)).ins 201 (o201 P)).ins 202 (o202 P)).ins 203 (o203 P)).ins 204 (o204 P)).ins 205 (o205 P)).ins 206 (o206 P)).ins 207 (o207 P)).ins 208 (o208 P)).ins 209 (o209 P)).ins 210 (o210 P)).ins 211 (o211 P)).ins 212 (o212 P)).ins 213 (o213 P)).ins 214 (o214 P)).ins 215 (o215 P)).ins 216 (o216 P)).ins 217 (o217 P)).ins 218 (o218 P)).ins 219 (o219 P)).ins 220 (o220 P)).ins 221 (o221 P)).ins 222 (o222 P)).ins 223 (o223 P)).ins 224 (o224 P)).ins 225 (o225 P)).ins 226 (o226 P)).ins 227 (o227 P)).ins 228 (o228 P)).ins 229 (o229 P)).ins 230 (o230 P)).ins 231 (o231 P)).ins 232 (o232 P)).ins 233 (o233 P)).ins 234 (o234 P)).ins 235 (o235 P)).ins 236 (o236 P)).ins 237 (o237 P)).ins 238 (o238 P)).ins 239 (o239 P)).ins 240 (o240 P)).ins 241 (o241 P)).ins 242 (o242 P)).ins 243 (o243 P)).ins 244 (o244 P)).ins 245 (o245 P)).ins 246 (o246 P)).ins 247 (o247 P)).ins 248 (o248 P)).ins 249 (o249 P)).ins 250 (o250 P)).ins 251 (o251 P)).ins 252 (o252 P)).ins 253 (o253 P)).ins 254 (o254 P)).ins 255 (o255 P)).ins 256 (o256 P)).ins 257 (o257 P)).ins 258 (o258 P)).ins 259 (o259 P)).ins 260 (o260 P)).ins 261 (o261 P)).ins 262 (o262 P)).ins 263 (o263 P)).ins 264 (o264 P)).ins 265 (o265 P)).ins 266 (o266 P)).ins 267 (o267 P)).ins 268 (o268 P)).ins 269 (o269 P)).ins 270 (o270 P)).ins 271 (o271 P)).ins 272 (o272 P)).ins 273 (o273 P)).ins 274 (o274 P)).ins 275 (o275 P)).ins 276 (o276 P)).ins 277 (o277 P)).ins 278 (o278 P)).ins 279 (o279 P)).ins 280 (o280 P)).ins 281 (o281 P)).ins 282 (o282 P)).ins 283 (o283 P)).ins 284 (o284 P)).ins 285 (o285 P)).ins 286 (o286 P)).ins 287 (o287 P)).ins 288 (o288 P)).ins 289 (o289 P)).ins 290 (o290 P)).ins 291 (o291 P)
noncomputable def o3_2 (P : Params) : Obj := ⟨(.type "dict"), none, (.dict #[en P "__name__" 165 (.str "law_trueword_k16_no_payments" 493), en P "__doc__" 166 .none, en P "__package__" 167 .none, en P "__loader__" 168 (.builtin "__main__.__loader__#opaque"), en P "__spec__" 169 .none, en P "__annotations__" 170 (.ref 6), en P "__builtins__" 171 (.ref 4), en P "__file__" 173 (.str "/claim/cut.py" 172), en P "__cached__" 174 .none, en P "turn" 197 (.ref 21), en P "gain" 207 (.ref 28), en P "first_gain" 218 (.ref 35), en P "total_of" 227 (.ref 42), en P "words_of" 234 (.ref 49), en P "walks_of_one_turn" 240 (.ref 54), en P "least_to" 246 (.ref 59), en P "lengthened" 252 (.ref 64), en P "after_a_turn" 258 (.ref 69), en P "has_honest" 264 (.ref 74), en P "closed_below_zero" 273 (.ref 81), en P "ring" 279 (.ref 86), en P "TrueError" 299 (.ref 96), en P "NoPays" 315 (.ref 109), en P "NoHouse" 331 (.ref 121), en P "NoMenu" 347 (.ref 133), en P "NoWeight" 363 (.ref 145), en P "NoShare" 379 (.ref 157), en P "NoRule" 395 (.ref 169), en P "NoRow" 411 (.ref 181), en P "NoStand" 427 (.ref 193), en P "NoWord" 443 (.ref 205), en P "refuse_ring" 452 (.ref 214), en P "lesser" 460 (.ref 221), en P "least_roads" 466 (.ref 226), en P "greatest" 474 (.ref 231), en P "mirrored_row" 480 (.ref 236), en P "mirrored" 486 (.ref 241), en P "least" 492 (.ref 246), en P "_law_cell" 502 (.ref 253), en P "_law_number" 510 (.ref 260), en P "_law_free" 516 (.ref 265), en P "_law_pays" 522 (.ref 270), en P "_law_priced" 539 (.ref 277), en P "_law_grid" 551 (.ref 284), en P "_law_honest" 562 (.ref 291), en P "_law_along" 573 (.ref 298), en P "_law_words" 582 (.ref 305), en P "_law_numbers" 591 (.ref 312), en P "_law_ring" 599 (.ref 319), en P "_law_refused" 610 (.ref 326), en P "_law_right" 619 (.ref 333), en P "law" 633 (.ref 340)] 52), #[]⟩
noncomputable def o12_3 (P : Params) : Obj := ⟨.none, none, (.fields #[(.int (2) 0), (.int (0) 0), (.ref 20), (.int (4) 0), (.int (0) 0), (.ref 27), (.int (6) 0), (.int (0) 0), (.ref 34), (.int (14) 0), (.int (0) 0), (.ref 41), (.int (16) 0), (.int (0) 0), (.ref 48), (.int (18) 0), (.int (0) 0), (.ref 53), (.int (20) 0), (.int (0) 0), (.ref 58), (.int (23) 0), (.int (0) 0), (.ref 63), (.int (25) 0), (.int (0) 0), (.ref 68), (.int (27) 0), (.int (0) 0), (.ref 73), (.int (32) 0), (.int (0) 0), (.ref 80), (.int (37) 0), (.int (0) 0), (.ref 85), (.int (48) 0), (.int (0) 0), (.ref 92), (.int (50) 0), (.int (0) 0), (.ref 105), (.int (52) 0), (.int (0) 0), (.ref 117), (.int (54) 0), (.int (0) 0), (.ref 129), (.int (56) 0), (.int (0) 0), (.ref 141), (.int (58) 0), (.int (0) 0), (.ref 153), (.int (60) 0), (.int (0) 0), (.ref 165), (.int (62) 0), (.int (0) 0), (.ref 177), (.int (64) 0), (.int (0) 0), (.ref 189), (.int (66) 0), (.int (0) 0), (.ref 201), (.int (69) 0), (.int (0) 0), (.ref 213), (.int (72) 0), (.int (0) 0), (.ref 220), (.int (74) 0), (.int (0) 0), (.ref 225), (.int (79) 0), (.int (0) 0), (.ref 230), (.int (83) 0), (.int (0) 0), (.ref 235), (.int (85) 0), (.int (0) 0), (.ref 240), (.int (87) 0), (.int (0) 0), (.ref 245), (.int (92) 0), (.int (0) 0), (.ref 252), (.int (96) 0), (.int (0) 0), (.ref 259), (.int (104) 0), (.int (0) 0), (.ref 264), (.int (110) 0), (.int (0) 0), (.ref 269), (.int (112) 0), (.int (0) 0), (.ref 276), (.int (126) 0), (.int (0) 0), (.ref 283), (.int (136) 0), (.int (0) 0), (.ref 290), (.int (143) 0), (.int (0) 0), (.ref 297), (.int (150) 0), (.int (0) 0), (.ref 304), (.int (157) 0), (.int (0) 0), (.ref 311), (.int (164) 0), (.int (0) 0), (.ref 318), (.int (168) 0), (.int (0) 0), (.ref 325), (.int (179) 0), (.int (0) 0), (.ref 332), (.int (187) 0), (.int (0) 0), (.ref 339)]), #[]⟩
noncomputable def o292 (P : Params) : Obj := ⟨(.type "tuple"), none, (.seq #[] 0), #[]⟩
noncomputable def o293 (P : Params) : Obj := ⟨.none, none, (.fields #[]), #[]⟩
noncomputable def o294 (P : Params) : Obj := ⟨(.type "tuple"), none, (.seq #[(.str "grid" 566), (.str "words" 567), (.str "whole" 568), (.str "ahead" 569), (.str "word" 570)] 0), #[]⟩
noncomputable def o295 (P : Params) : Obj := ⟨(.type "tuple"), none, (.seq #[] 0), #[]⟩
noncomputable def o296 (P : Params) : Obj := ⟨.none, none, (.func (fx 42 "_law_along" "_law_along" 0 .none .none .none .none none .none .none 0)), #[]⟩
noncomputable def o297 (P : Params) : Obj := ⟨(.type "code"), none, (.fields #[(.str "_law_along" 563), (.str "_law_along" 564), (.str "/claim/cut.py" 565), (.int (143) 0), (.int (2) 0), (.int (0) 0), (.int (0) 0), (.int (3) 0), (.ref 292), (.bool true), (.int (181) 0), (.ref 293), .none, (.ref 294), (.ref 295), (.ref 296), (.int (571) 0), (.int (143) 0), (.str "/claim/cut.py" 572)]), #[]⟩
noncomputable def o298 (P : Params) : Obj := ⟨(.type "function"), none, (.func (fn 42 "_law_along" "_law_along" .none .none .none (.str "law_trueword_k16_no_payments" 493) none (.ref 297) .none)), #[]⟩
noncomputable def o299 (P : Params) : Obj := ⟨(.type "tuple"), none, (.seq #[] 0), #[]⟩
noncomputable def o300 (P : Params) : Obj := ⟨.none, none, (.fields #[]), #[]⟩
noncomputable def o301 (P : Params) : Obj := ⟨(.type "tuple"), none, (.seq #[(.str "words" 577), (.str "many" 578), (.str "word" 579)] 0), #[]⟩
noncomputable def o302 (P : Params) : Obj := ⟨(.type "tuple"), none, (.seq #[] 0), #[]⟩
noncomputable def o303 (P : Params) : Obj := ⟨.none, none, (.func (fx 43 "_law_words" "_law_words" 0 .none .none .none .none none .none .none 0)), #[]⟩
noncomputable def o304 (P : Params) : Obj := ⟨(.type "code"), none, (.fields #[(.str "_law_words" 574), (.str "_law_words" 575), (.str "/claim/cut.py" 576), (.int (150) 0), (.int (2) 0), (.int (0) 0), (.int (0) 0), (.int (3) 0), (.ref 299), (.bool true), (.int (181) 0), (.ref 300), .none, (.ref 301), (.ref 302), (.ref 303), (.int (580) 0), (.int (150) 0), (.str "/claim/cut.py" 581)]), #[]⟩
noncomputable def o305 (P : Params) : Obj := ⟨(.type "function"), none, (.func (fn 43 "_law_words" "_law_words" .none .none .none (.str "law_trueword_k16_no_payments" 493) none (.ref 304) .none)), #[]⟩
noncomputable def o306 (P : Params) : Obj := ⟨(.type "tuple"), none, (.seq #[] 0), #[]⟩
noncomputable def o307 (P : Params) : Obj := ⟨.none, none, (.fields #[]), #[]⟩
noncomputable def o308 (P : Params) : Obj := ⟨(.type "tuple"), none, (.seq #[(.str "pays" 586), (.str "many" 587), (.str "number" 588)] 0), #[]⟩
noncomputable def o309 (P : Params) : Obj := ⟨(.type "tuple"), none, (.seq #[] 0), #[]⟩
noncomputable def o310 (P : Params) : Obj := ⟨.none, none, (.func (fx 44 "_law_numbers" "_law_numbers" 0 .none .none .none .none none .none .none 0)), #[]⟩
noncomputable def o311 (P : Params) : Obj := ⟨(.type "code"), none, (.fields #[(.str "_law_numbers" 583), (.str "_law_numbers" 584), (.str "/claim/cut.py" 585), (.int (157) 0), (.int (2) 0), (.int (0) 0), (.int (0) 0), (.int (3) 0), (.ref 306), (.bool true), (.int (181) 0), (.ref 307), .none, (.ref 308), (.ref 309), (.ref 310), (.int (589) 0), (.int (157) 0), (.str "/claim/cut.py" 590)]), #[]⟩
noncomputable def o312 (P : Params) : Obj := ⟨(.type "function"), none, (.func (fn 44 "_law_numbers" "_law_numbers" .none .none .none (.str "law_trueword_k16_no_payments" 493) none (.ref 311) .none)), #[]⟩
noncomputable def o313 (P : Params) : Obj := ⟨(.type "tuple"), none, (.seq #[] 0), #[]⟩
noncomputable def o314 (P : Params) : Obj := ⟨.none, none, (.fields #[]), #[]⟩
noncomputable def o315 (P : Params) : Obj := ⟨(.type "tuple"), none, (.seq #[(.str "grid" 595), (.str "words" 596)] 0), #[]⟩
noncomputable def o316 (P : Params) : Obj := ⟨(.type "tuple"), none, (.seq #[] 0), #[]⟩
noncomputable def o317 (P : Params) : Obj := ⟨.none, none, (.func (fx 45 "_law_ring" "_law_ring" 0 .none .none .none .none none .none .none 0)), #[]⟩
noncomputable def o318 (P : Params) : Obj := ⟨(.type "code"), none, (.fields #[(.str "_law_ring" 592), (.str "_law_ring" 593), (.str "/claim/cut.py" 594), (.int (164) 0), (.int (2) 0), (.int (0) 0), (.int (0) 0), (.int (3) 0), (.ref 313), (.bool true), (.int (181) 0), (.ref 314), .none, (.ref 315), (.ref 316), (.ref 317), (.int (597) 0), (.int (164) 0), (.str "/claim/cut.py" 598)]), #[]⟩
noncomputable def o319 (P : Params) : Obj := ⟨(.type "function"), none, (.func (fn 45 "_law_ring" "_law_ring" .none .none .none (.str "law_trueword_k16_no_payments" 493) none (.ref 318) .none)), #[]⟩
noncomputable def o320 (P : Params) : Obj := ⟨(.type "tuple"), none, (.seq #[] 0), #[]⟩
noncomputable def o321 (P : Params) : Obj := ⟨.none, none, (.fields #[]), #[]⟩
noncomputable def o322 (P : Params) : Obj := ⟨(.type "tuple"), none, (.seq #[(.str "way" 603), (.str "grid" 604), (.str "told" 605), (.str "e" 606), (.str "others" 607)] 0), #[]⟩
noncomputable def o323 (P : Params) : Obj := ⟨(.type "tuple"), none, (.seq #[] 0), #[]⟩
noncomputable def o324 (P : Params) : Obj := ⟨.none, none, (.func (fx 46 "_law_refused" "_law_refused" 0 .none .none .none .none none .none .none 0)), #[]⟩
noncomputable def o325 (P : Params) : Obj := ⟨(.type "code"), none, (.fields #[(.str "_law_refused" 600), (.str "_law_refused" 601), (.str "/claim/cut.py" 602), (.int (168) 0), (.int (2) 0), (.int (0) 0), (.int (0) 0), (.int (3) 0), (.ref 320), (.bool true), (.int (181) 0), (.ref 321), .none, (.ref 322), (.ref 323), (.ref 324), (.int (608) 0), (.int (168) 0), (.str "/claim/cut.py" 609)]), #[]⟩
noncomputable def o326 (P : Params) : Obj := ⟨(.type "function"), none, (.func (fn 46 "_law_refused" "_law_refused" .none .none .none (.str "law_trueword_k16_no_payments" 493) none (.ref 325) .none)), #[]⟩
noncomputable def o327 (P : Params) : Obj := ⟨(.type "tuple"), none, (.seq #[] 0), #[]⟩
noncomputable def o328 (P : Params) : Obj := ⟨.none, none, (.fields #[]), #[]⟩
noncomputable def o329 (P : Params) : Obj := ⟨(.type "tuple"), none, (.seq #[(.str "grid" 614), (.str "found" 615), (.str "due" 616)] 0), #[]⟩
noncomputable def o330 (P : Params) : Obj := ⟨(.type "tuple"), none, (.seq #[] 0), #[]⟩
noncomputable def o331 (P : Params) : Obj := ⟨.none, none, (.func (fx 47 "_law_right" "_law_right" 0 .none .none .none .none none .none .none 0)), #[]⟩
noncomputable def o332 (P : Params) : Obj := ⟨(.type "code"), none, (.fields #[(.str "_law_right" 611), (.str "_law_right" 612), (.str "/claim/cut.py" 613), (.int (179) 0), (.int (1) 0), (.int (0) 0), (.int (0) 0), (.int (3) 0), (.ref 327), (.bool true), (.int (181) 0), (.ref 328), .none, (.ref 329), (.ref 330), (.ref 331), (.int (617) 0), (.int (179) 0), (.str "/claim/cut.py" 618)]), #[]⟩
noncomputable def o333 (P : Params) : Obj := ⟨(.type "function"), none, (.func (fn 47 "_law_right" "_law_right" .none .none .none (.str "law_trueword_k16_no_payments" 493) none (.ref 332) .none)), #[]⟩
noncomputable def o334 (P : Params) : Obj := ⟨(.type "tuple"), none, (.seq #[] 0), #[]⟩
noncomputable def o335 (P : Params) : Obj := ⟨.none, none, (.fields #[]), #[]⟩
noncomputable def o336 (P : Params) : Obj := ⟨(.type "tuple"), none, (.seq #[(.str "script" 623), (.str "many" 624), (.str "grid" 625), (.str "rest" 626), (.str "words" 627), (.str "k" 628), (.str "more" 629), (.str "kept" 630)] 0), #[]⟩
noncomputable def o337 (P : Params) : Obj := ⟨(.type "tuple"), none, (.seq #[] 0), #[]⟩
noncomputable def o338 (P : Params) : Obj := ⟨.none, none, (.func (fx 48 "law" "law" 0 .none .none .none .none none .none .none 0)), #[]⟩
noncomputable def o339 (P : Params) : Obj := ⟨(.type "code"), none, (.fields #[(.str "law" 620), (.str "law" 621), (.str "/claim/cut.py" 622), (.int (187) 0), (.int (1) 0), (.int (0) 0), (.int (0) 0), (.int (3) 0), (.ref 334), (.bool true), (.int (181) 0), (.ref 335), .none, (.ref 336), (.ref 337), (.ref 338), (.int (631) 0), (.int (187) 0), (.str "/claim/cut.py" 632)]), #[]⟩
noncomputable def o340 (P : Params) : Obj := ⟨(.type "function"), none, (.func (fn 48 "law" "law" .none .none .none (.str "law_trueword_k16_no_payments" 493) none (.ref 339) .none)), #[]⟩
noncomputable def t3 (P : Params) : BT := (((((((((((((((((((((((((((((((((((((((((((((((((((t2 P).set 3 fun _ => o3_2 P).set 12 fun _ => o12_3 P).ins 292 (o292 P)).ins 293 (o293 P)).ins 294 (o294 P)).ins 295 (o295 P)).ins 296 (o296 P)).ins 297 (o297 P)).ins 298 (o298 P)).ins 299 (o299 P)).ins 300 (o300 P)).ins 301 (o301 P)).ins 302 (o302 P)).ins 303 (o303 P)).ins 304 (o304 P)).ins 305 (o305 P)).ins 306 (o306 P)).ins 307 (o307 P)).ins 308 (o308 P)).ins 309 (o309 P)).ins 310 (o310 P)).ins 311 (o311 P)).ins 312 (o312 P)).ins 313 (o313 P)).ins 314 (o314 P)).ins 315 (o315 P)).ins 316 (o316 P)).ins 317 (o317 P)).ins 318 (o318 P)).ins 319 (o319 P)).ins 320 (o320 P)).ins 321 (o321 P)).ins 322 (o322 P)).ins 323 (o323 P)).ins 324 (o324 P)).ins 325 (o325 P)).ins 326 (o326 P)).ins 327 (o327 P)).ins 328 (o328 P)).ins 329 (o329 P)).ins 330 (o330 P)).ins 331 (o331 P)).ins 332 (o332 P)).ins 333 (o333 P)).ins 334 (o334 P)).ins 335 (o335 P)).ins 336 (o336 P)).ins 337 (o337 P)).ins 338 (o338 P)).ins 339 (o339 P)).ins 340 (o340 P)
noncomputable def hf (P : Params) : Heap := ⟨⟨[boot_o_0 P, boot_o_1 P, boot_o_2 P, o3_2 P, boot_o_4 P, boot_o_5 P, boot_o_6 P, boot_o_7 P, boot_o_8 P, boot_o_9 P, boot_o_10 P, o11 P, o12_3 P, o13 P, o14 P, o15 P, o16 P, o17 P, o18 P, o19 P, o20 P, o21 P, o22 P, o23 P, o24 P, o25 P, o26 P, o27 P, o28 P, o29 P, o30 P, o31 P, o32 P, o33 P, o34 P, o35 P, o36 P, o37 P, o38 P, o39 P, o40 P, o41 P, o42 P, o43 P, o44 P, o45 P, o46 P, o47 P, o48 P, o49 P, o50 P, o51 P, o52 P, o53 P, o54 P, o55 P, o56 P, o57 P, o58 P, o59 P, o60 P, o61 P, o62 P, o63 P, o64 P, o65 P, o66 P, o67 P, o68 P, o69 P, o70 P, o71 P, o72 P, o73 P, o74 P, o75 P, o76 P, o77 P, o78 P, o79 P, o80 P, o81 P, o82 P, o83 P, o84 P, o85 P, o86 P, o87 P, o88 P, o89 P, o90 P, o91 P, o92 P, o93 P, o94 P, o95 P, o96_1 P, o97 P, o98 P, o99 P, o100 P, o101 P, o102 P, o103 P, o104 P, o105 P, o106 P, o107 P, o108 P, o109 P, o110 P, o111 P, o112 P, o113 P, o114 P, o115 P, o116 P, o117 P, o118 P, o119 P, o120 P, o121 P, o122 P, o123 P, o124 P, o125 P, o126 P, o127 P, o128 P, o129 P, o130 P, o131 P, o132 P, o133 P, o134 P, o135 P, o136 P, o137 P, o138 P, o139 P, o140 P, o141 P, o142 P, o143 P, o144 P, o145 P, o146 P, o147 P, o148 P, o149 P, o150 P, o151 P, o152 P, o153 P, o154 P, o155 P, o156 P, o157 P, o158 P, o159 P, o160 P, o161 P, o162 P, o163 P, o164 P, o165 P, o166 P, o167 P, o168 P, o169 P, o170 P, o171 P, o172 P, o173 P, o174 P, o175 P, o176 P, o177 P, o178 P, o179 P, o180 P, o181 P, o182 P, o183 P, o184 P, o185 P, o186 P, o187 P, o188 P, o189 P, o190 P, o191 P, o192 P, o193 P, o194 P, o195 P, o196 P, o197 P, o198 P, o199 P, o200 P, o201 P, o202 P, o203 P, o204 P, o205 P, o206 P, o207 P, o208 P, o209 P, o210 P, o211 P, o212 P, o213 P, o214 P, o215 P, o216 P, o217 P, o218 P, o219 P, o220 P, o221 P, o222 P, o223 P, o224 P, o225 P, o226 P, o227 P, o228 P, o229 P, o230 P, o231 P, o232 P, o233 P, o234 P, o235 P, o236 P, o237 P, o238 P, o239 P, o240 P, o241 P, o242 P, o243 P, o244 P, o245 P, o246 P, o247 P, o248 P, o249 P, o250 P, o251 P, o252 P, o253 P, o254 P, o255 P, o256 P, o257 P, o258 P, o259 P, o260 P, o261 P, o262 P, o263 P, o264 P, o265 P, o266 P, o267 P, o268 P, o269 P, o270 P, o271 P, o272 P, o273 P, o274 P, o275 P, o276 P, o277 P, o278 P, o279 P, o280 P, o281 P, o282 P, o283 P, o284 P, o285 P, o286 P, o287 P, o288 P, o289 P, o290 P, o291 P, o292 P, o293 P, o294 P, o295 P, o296 P, o297 P, o298 P, o299 P, o300 P, o301 P, o302 P, o303 P, o304 P, o305 P, o306 P, o307 P, o308 P, o309 P, o310 P, o311 P, o312 P, o313 P, o314 P, o315 P, o316 P, o317 P, o318 P, o319 P, o320 P, o321 P, o322 P, o323 P, o324 P, o325 P, o326 P, o327 P, o328 P, o329 P, o330 P, o331 P, o332 P, o333 P, o334 P, o335 P, o336 P, o337 P, o338 P, o339 P, o340 P]⟩, lf P⟩
noncomputable def s0 (w : World) (os : OsState) : SharedT := ⟨t0 w.params, 15, lf w.params, Array.mk [], boot_drawn, 187, os⟩
noncomputable def s1 (w : World) (os : OsState) : SharedT := ⟨t1 w.params, 148, lf w.params, Array.mk [], boot_drawn, 364, os⟩
noncomputable def s2 (w : World) (os : OsState) : SharedT := ⟨t2 w.params, 292, lf w.params, Array.mk [], boot_drawn, 563, os⟩
noncomputable def s3 (w : World) (os : OsState) : SharedT := ⟨t3 w.params, 341, lf w.params, Array.mk [], boot_drawn, 634, os⟩
noncomputable def l0 : List Stmt := (pr.main.body.drop 0).take 20
noncomputable def l1 : List Stmt := (pr.main.body.drop 20).take 22
noncomputable def l2 : List Stmt := (pr.main.body.drop 42).take 7
theorem bs : behindTheImports pr = l0 ++ (l1 ++ (l2 ++ ([]))) := by kernel_rfl
theorem r_pre (w : World) (os : OsState) : topGo treeTable pr w 11 (some (.ref 6)) 12 ⟨boot_heap w.params, Array.mk [], boot_drawn, boot_toks, os⟩ (topStub pr) = some (⟨ha w.params, Array.mk [], boot_drawn, 187, os⟩, ⟨denote treeTable cd, cd, ⟨0, 0, 0, 0⟩, [topFrame qp]⟩) := by kernel_rfl
theorem r_block (w : World) (os : OsState) : segRun treeTable pr w 11 (some (.ref 6)) 1 1 ⟨ha w.params, Array.mk [], boot_drawn, 187, os⟩ (blockOf (behindTheImports pr) env cd ⟨0, 0, 0, 0⟩ [topFrame qp]) = some (.next, (s0 w os).abs, cd, ⟨0, 0, 0, 0⟩) := by kernel_rfl
theorem r0 (w : World) (os : OsState) : segRunT treeTable pr w 11 (some (.ref 6)) 1 1407 (s0 w os) (piecesOf l0 env cd ⟨0, 0, 0, 0⟩ [topFrame qp]) = some (.next, s1 w os, cd, ⟨56, 0, 57, 8⟩) := by
  rw [PySem.W.Fast.te10110043849684766642, PySem.W.Fast.te14364793385576792824]; kernel_rfl
theorem r1 (w : World) (os : OsState) : segRunT treeTable pr w 11 (some (.ref 6)) 1 1500 (s1 w os) (piecesOf l1 env cd ⟨56, 0, 57, 8⟩ [topFrame qp]) = some (.next, s2 w os, cd, ⟨136, 0, 142, 15⟩) := by
  rw [PySem.W.Fast.te10110043849684766642, PySem.W.Fast.te14364793385576792824]; kernel_rfl
theorem r2 (w : World) (os : OsState) : segRunT treeTable pr w 11 (some (.ref 6)) 1 226 (s2 w os) (piecesOf l2 env cd ⟨136, 0, 142, 15⟩ [topFrame qp]) = some (.next, s3 w os, cd, ⟨187, 0, 204, 50⟩) := by
  rw [PySem.W.Fast.te10110043849684766642, PySem.W.Fast.te14364793385576792824]; kernel_rfl
theorem r_fin (w : World) (os : OsState) : topRun treeTable pr w 11 (some (.ref 6)) 2 (s3 w os).abs ⟨doneF .next, cd, ⟨187, 0, 204, 50⟩, [topFrame qp]⟩ = some ⟨hf w.params, Array.mk [], boot_drawn, 634, os⟩ := by kernel_rfl
theorem r_rest (w : World) (os : OsState) : topRun treeTable pr w 11 (some (.ref 6)) (1407 + (1500 + (226 + (2)))) (s0 w os).abs (restOf (behindTheImports pr) env cd ⟨0, 0, 0, 0⟩ [topFrame qp]) = some ⟨hf w.params, Array.mk [], boot_drawn, 634, os⟩ := by
  have k := piece_app (segRun_of (r0 w os)) (piece_app (segRun_of (r1 w os)) (piece_app (segRun_of (r2 w os)) (piece_nil (r_fin w os))))
  exact (congrArg (fun b => topRun treeTable pr w 11 (some (.ref 6)) (1407 + (1500 + (226 + (2)))) (s0 w os).abs (restOf b env cd ⟨0, 0, 0, 0⟩ [topFrame qp])) bs).trans k
theorem r_all (w : World) (os : OsState) : topRun treeTable pr w 11 (some (.ref 6)) (12 + (1 + (1407 + (1500 + (226 + (2)))))) ⟨boot_heap w.params, Array.mk [], boot_drawn, boot_toks, os⟩ (topStub pr) = some ⟨hf w.params, Array.mk [], boot_drawn, 634, os⟩ := go_top (r_pre w os) (piece_block (r_block w os) (r_rest w os))
noncomputable def ks : List Addr := [2, 3, 11, 12, 13, 14, 15, 16, 17, 18, 19, 20, 21, 22, 23, 24, 25, 26, 27, 28, 29, 30, 31, 32, 33, 34, 35, 36, 37, 38, 39, 40, 41, 42, 43, 44, 45, 46, 47, 48, 49, 50, 51, 52, 53, 54, 55, 56, 57, 58, 59, 60, 61, 62, 63, 64, 65, 66, 67, 68, 69, 70, 71, 72, 73, 74, 75, 76, 77, 78, 79, 80, 81, 82, 83, 84, 85, 86, 87, 88, 89, 90, 91, 92, 93, 94, 95, 96, 97, 98, 99, 100, 101, 102, 103, 104, 105, 106, 107, 108, 109, 110, 111, 112, 113, 114, 115, 116, 117, 118, 119, 120, 121, 122, 123, 124, 125, 126, 127, 128, 129, 130, 131, 132, 133, 134, 135, 136, 137, 138, 139, 140, 141, 142, 143, 144, 145, 146, 147, 148, 149, 150, 151, 152, 153, 154, 155, 156, 157, 158, 159, 160, 161, 162, 163, 164, 165, 166, 167, 168, 169, 170, 171, 172, 173, 174, 175, 176, 177, 178, 179, 180, 181, 182, 183, 184, 185, 186, 187, 188, 189, 190, 191, 192, 193, 194, 195, 196, 197, 198, 199, 200, 201, 202, 203, 204, 205, 206, 207, 208, 209, 210, 211, 212, 213, 214, 215, 216, 217, 218, 219, 220, 221, 222, 223, 224, 225, 226, 227, 228, 229, 230, 231, 232, 233, 234, 235, 236, 237, 238, 239, 240, 241, 242, 243, 244, 245, 246, 247, 248, 249, 250, 251, 252, 253, 254, 255, 256, 257, 258, 259, 260, 261, 262, 263, 264, 265, 266, 267, 268, 269, 270, 271, 272, 273, 274, 275, 276, 277, 278, 279, 280, 281, 282, 283, 284, 285, 286, 287, 288, 289, 290, 291, 292, 293, 294, 295, 296, 297, 298, 299, 300, 301, 302, 303, 304, 305, 306, 307, 308, 309, 310, 311, 312, 313, 314, 315, 316, 317, 318, 319, 320, 321, 322, 323, 324, 325, 326, 327, 328, 329, 330, 331, 332, 333, 334, 335, 336, 337, 338, 339, 340]
noncomputable def K : Params → Frag := fun P => (nat_lit 2, boot_o_2 P) :: (nat_lit 3, o3_2 P) :: (nat_lit 11, o11 P) :: (nat_lit 12, o12_3 P) :: (nat_lit 13, o13 P) :: (nat_lit 14, o14 P) :: (nat_lit 15, o15 P) :: (nat_lit 16, o16 P) :: (nat_lit 17, o17 P) :: (nat_lit 18, o18 P) :: (nat_lit 19, o19 P) :: (nat_lit 20, o20 P) :: (nat_lit 21, o21 P) :: (nat_lit 22, o22 P) :: (nat_lit 23, o23 P) :: (nat_lit 24, o24 P) :: (nat_lit 25, o25 P) :: (nat_lit 26, o26 P) :: (nat_lit 27, o27 P) :: (nat_lit 28, o28 P) :: (nat_lit 29, o29 P) :: (nat_lit 30, o30 P) :: (nat_lit 31, o31 P) :: (nat_lit 32, o32 P) :: (nat_lit 33, o33 P) :: (nat_lit 34, o34 P) :: (nat_lit 35, o35 P) :: (nat_lit 36, o36 P) :: (nat_lit 37, o37 P) :: (nat_lit 38, o38 P) :: (nat_lit 39, o39 P) :: (nat_lit 40, o40 P) :: (nat_lit 41, o41 P) :: (nat_lit 42, o42 P) :: (nat_lit 43, o43 P) :: (nat_lit 44, o44 P) :: (nat_lit 45, o45 P) :: (nat_lit 46, o46 P) :: (nat_lit 47, o47 P) :: (nat_lit 48, o48 P) :: (nat_lit 49, o49 P) :: (nat_lit 50, o50 P) :: (nat_lit 51, o51 P) :: (nat_lit 52, o52 P) :: (nat_lit 53, o53 P) :: (nat_lit 54, o54 P) :: (nat_lit 55, o55 P) :: (nat_lit 56, o56 P) :: (nat_lit 57, o57 P) :: (nat_lit 58, o58 P) :: (nat_lit 59, o59 P) :: (nat_lit 60, o60 P) :: (nat_lit 61, o61 P) :: (nat_lit 62, o62 P) :: (nat_lit 63, o63 P) :: (nat_lit 64, o64 P) :: (nat_lit 65, o65 P) :: (nat_lit 66, o66 P) :: (nat_lit 67, o67 P) :: (nat_lit 68, o68 P) :: (nat_lit 69, o69 P) :: (nat_lit 70, o70 P) :: (nat_lit 71, o71 P) :: (nat_lit 72, o72 P) :: (nat_lit 73, o73 P) :: (nat_lit 74, o74 P) :: (nat_lit 75, o75 P) :: (nat_lit 76, o76 P) :: (nat_lit 77, o77 P) :: (nat_lit 78, o78 P) :: (nat_lit 79, o79 P) :: (nat_lit 80, o80 P) :: (nat_lit 81, o81 P) :: (nat_lit 82, o82 P) :: (nat_lit 83, o83 P) :: (nat_lit 84, o84 P) :: (nat_lit 85, o85 P) :: (nat_lit 86, o86 P) :: (nat_lit 87, o87 P) :: (nat_lit 88, o88 P) :: (nat_lit 89, o89 P) :: (nat_lit 90, o90 P) :: (nat_lit 91, o91 P) :: (nat_lit 92, o92 P) :: (nat_lit 93, o93 P) :: (nat_lit 94, o94 P) :: (nat_lit 95, o95 P) :: (nat_lit 96, o96_1 P) :: (nat_lit 97, o97 P) :: (nat_lit 98, o98 P) :: (nat_lit 99, o99 P) :: (nat_lit 100, o100 P) :: (nat_lit 101, o101 P) :: (nat_lit 102, o102 P) :: (nat_lit 103, o103 P) :: (nat_lit 104, o104 P) :: (nat_lit 105, o105 P) :: (nat_lit 106, o106 P) :: (nat_lit 107, o107 P) :: (nat_lit 108, o108 P) :: (nat_lit 109, o109 P) :: (nat_lit 110, o110 P) :: (nat_lit 111, o111 P) :: (nat_lit 112, o112 P) :: (nat_lit 113, o113 P) :: (nat_lit 114, o114 P) :: (nat_lit 115, o115 P) :: (nat_lit 116, o116 P) :: (nat_lit 117, o117 P) :: (nat_lit 118, o118 P) :: (nat_lit 119, o119 P) :: (nat_lit 120, o120 P) :: (nat_lit 121, o121 P) :: (nat_lit 122, o122 P) :: (nat_lit 123, o123 P) :: (nat_lit 124, o124 P) :: (nat_lit 125, o125 P) :: (nat_lit 126, o126 P) :: (nat_lit 127, o127 P) :: (nat_lit 128, o128 P) :: (nat_lit 129, o129 P) :: (nat_lit 130, o130 P) :: (nat_lit 131, o131 P) :: (nat_lit 132, o132 P) :: (nat_lit 133, o133 P) :: (nat_lit 134, o134 P) :: (nat_lit 135, o135 P) :: (nat_lit 136, o136 P) :: (nat_lit 137, o137 P) :: (nat_lit 138, o138 P) :: (nat_lit 139, o139 P) :: (nat_lit 140, o140 P) :: (nat_lit 141, o141 P) :: (nat_lit 142, o142 P) :: (nat_lit 143, o143 P) :: (nat_lit 144, o144 P) :: (nat_lit 145, o145 P) :: (nat_lit 146, o146 P) :: (nat_lit 147, o147 P) :: (nat_lit 148, o148 P) :: (nat_lit 149, o149 P) :: (nat_lit 150, o150 P) :: (nat_lit 151, o151 P) :: (nat_lit 152, o152 P) :: (nat_lit 153, o153 P) :: (nat_lit 154, o154 P) :: (nat_lit 155, o155 P) :: (nat_lit 156, o156 P) :: (nat_lit 157, o157 P) :: (nat_lit 158, o158 P) :: (nat_lit 159, o159 P) :: (nat_lit 160, o160 P) :: (nat_lit 161, o161 P) :: (nat_lit 162, o162 P) :: (nat_lit 163, o163 P) :: (nat_lit 164, o164 P) :: (nat_lit 165, o165 P) :: (nat_lit 166, o166 P) :: (nat_lit 167, o167 P) :: (nat_lit 168, o168 P) :: (nat_lit 169, o169 P) :: (nat_lit 170, o170 P) :: (nat_lit 171, o171 P) :: (nat_lit 172, o172 P) :: (nat_lit 173, o173 P) :: (nat_lit 174, o174 P) :: (nat_lit 175, o175 P) :: (nat_lit 176, o176 P) :: (nat_lit 177, o177 P) :: (nat_lit 178, o178 P) :: (nat_lit 179, o179 P) :: (nat_lit 180, o180 P) :: (nat_lit 181, o181 P) :: (nat_lit 182, o182 P) :: (nat_lit 183, o183 P) :: (nat_lit 184, o184 P) :: (nat_lit 185, o185 P) :: (nat_lit 186, o186 P) :: (nat_lit 187, o187 P) :: (nat_lit 188, o188 P) :: (nat_lit 189, o189 P) :: (nat_lit 190, o190 P) :: (nat_lit 191, o191 P) :: (nat_lit 192, o192 P) :: (nat_lit 193, o193 P) :: (nat_lit 194, o194 P) :: (nat_lit 195, o195 P) :: (nat_lit 196, o196 P) :: (nat_lit 197, o197 P) :: (nat_lit 198, o198 P) :: (nat_lit 199, o199 P) :: (nat_lit 200, o200 P) :: (nat_lit 201, o201 P) :: (nat_lit 202, o202 P) :: (nat_lit 203, o203 P) :: (nat_lit 204, o204 P) :: (nat_lit 205, o205 P) :: (nat_lit 206, o206 P) :: (nat_lit 207, o207 P) :: (nat_lit 208, o208 P) :: (nat_lit 209, o209 P) :: (nat_lit 210, o210 P) :: (nat_lit 211, o211 P) :: (nat_lit 212, o212 P) :: (nat_lit 213, o213 P) :: (nat_lit 214, o214 P) :: (nat_lit 215, o215 P) :: (nat_lit 216, o216 P) :: (nat_lit 217, o217 P) :: (nat_lit 218, o218 P) :: (nat_lit 219, o219 P) :: (nat_lit 220, o220 P) :: (nat_lit 221, o221 P) :: (nat_lit 222, o222 P) :: (nat_lit 223, o223 P) :: (nat_lit 224, o224 P) :: (nat_lit 225, o225 P) :: (nat_lit 226, o226 P) :: (nat_lit 227, o227 P) :: (nat_lit 228, o228 P) :: (nat_lit 229, o229 P) :: (nat_lit 230, o230 P) :: (nat_lit 231, o231 P) :: (nat_lit 232, o232 P) :: (nat_lit 233, o233 P) :: (nat_lit 234, o234 P) :: (nat_lit 235, o235 P) :: (nat_lit 236, o236 P) :: (nat_lit 237, o237 P) :: (nat_lit 238, o238 P) :: (nat_lit 239, o239 P) :: (nat_lit 240, o240 P) :: (nat_lit 241, o241 P) :: (nat_lit 242, o242 P) :: (nat_lit 243, o243 P) :: (nat_lit 244, o244 P) :: (nat_lit 245, o245 P) :: (nat_lit 246, o246 P) :: (nat_lit 247, o247 P) :: (nat_lit 248, o248 P) :: (nat_lit 249, o249 P) :: (nat_lit 250, o250 P) :: (nat_lit 251, o251 P) :: (nat_lit 252, o252 P) :: (nat_lit 253, o253 P) :: (nat_lit 254, o254 P) :: (nat_lit 255, o255 P) :: (nat_lit 256, o256 P) :: (nat_lit 257, o257 P) :: (nat_lit 258, o258 P) :: (nat_lit 259, o259 P) :: (nat_lit 260, o260 P) :: (nat_lit 261, o261 P) :: (nat_lit 262, o262 P) :: (nat_lit 263, o263 P) :: (nat_lit 264, o264 P) :: (nat_lit 265, o265 P) :: (nat_lit 266, o266 P) :: (nat_lit 267, o267 P) :: (nat_lit 268, o268 P) :: (nat_lit 269, o269 P) :: (nat_lit 270, o270 P) :: (nat_lit 271, o271 P) :: (nat_lit 272, o272 P) :: (nat_lit 273, o273 P) :: (nat_lit 274, o274 P) :: (nat_lit 275, o275 P) :: (nat_lit 276, o276 P) :: (nat_lit 277, o277 P) :: (nat_lit 278, o278 P) :: (nat_lit 279, o279 P) :: (nat_lit 280, o280 P) :: (nat_lit 281, o281 P) :: (nat_lit 282, o282 P) :: (nat_lit 283, o283 P) :: (nat_lit 284, o284 P) :: (nat_lit 285, o285 P) :: (nat_lit 286, o286 P) :: (nat_lit 287, o287 P) :: (nat_lit 288, o288 P) :: (nat_lit 289, o289 P) :: (nat_lit 290, o290 P) :: (nat_lit 291, o291 P) :: (nat_lit 292, o292 P) :: (nat_lit 293, o293 P) :: (nat_lit 294, o294 P) :: (nat_lit 295, o295 P) :: (nat_lit 296, o296 P) :: (nat_lit 297, o297 P) :: (nat_lit 298, o298 P) :: (nat_lit 299, o299 P) :: (nat_lit 300, o300 P) :: (nat_lit 301, o301 P) :: (nat_lit 302, o302 P) :: (nat_lit 303, o303 P) :: (nat_lit 304, o304 P) :: (nat_lit 305, o305 P) :: (nat_lit 306, o306 P) :: (nat_lit 307, o307 P) :: (nat_lit 308, o308 P) :: (nat_lit 309, o309 P) :: (nat_lit 310, o310 P) :: (nat_lit 311, o311 P) :: (nat_lit 312, o312 P) :: (nat_lit 313, o313 P) :: (nat_lit 314, o314 P) :: (nat_lit 315, o315 P) :: (nat_lit 316, o316 P) :: (nat_lit 317, o317 P) :: (nat_lit 318, o318 P) :: (nat_lit 319, o319 P) :: (nat_lit 320, o320 P) :: (nat_lit 321, o321 P) :: (nat_lit 322, o322 P) :: (nat_lit 323, o323 P) :: (nat_lit 324, o324 P) :: (nat_lit 325, o325 P) :: (nat_lit 326, o326 P) :: (nat_lit 327, o327 P) :: (nat_lit 328, o328 P) :: (nat_lit 329, o329 P) :: (nat_lit 330, o330 P) :: (nat_lit 331, o331 P) :: (nat_lit 332, o332 P) :: (nat_lit 333, o333 P) :: (nat_lit 334, o334 P) :: (nat_lit 335, o335 P) :: (nat_lit 336, o336 P) :: (nat_lit 337, o337 P) :: (nat_lit 338, o338 P) :: (nat_lit 339, o339 P) :: (nat_lit 340, o340 P) :: []
theorem ke (P : Params) : ks = (K P).map (·.1) := by kernel_rfl
noncomputable def lo : List Str := pr.main.scope.names.map (·.1)
noncomputable def vw : Program := { pr with main := { pr.main with body := [Mine.s_law] } }
noncomputable def fs (w : World) (os : OsState) : Shared := ⟨hf w.params, Array.mk [], boot_drawn, 634, os⟩
theorem z_size (w : World) : ((boot_heap w.params).isNs mainGlobals && (Array.mk [] : Array GenState).size == 0, (boot_heap w.params).objs.size, (boot_heap w.params).nsMap mainGlobals "__annotations__") = (true, 11, (some (.ref 6))) := by kernel_rfl
theorem z_one (w : World) (os : OsState) : (staticsOk (importedModules pr.main.body) (boot_heap w.params) (hf w.params) && namesBound pr (hf w.params) && gensDone (fs w os) && laidKept (boot_heap w.params) (hf w.params)) = true := by kernel_rfl
theorem z_two (w : World) (os : OsState) : openSeen vw lo (importedModules pr.main.body) (fun _ => true) true (fs w os) = openGood vw lo := by
  rw [PySem.W.Fast.te4187177175401517315]; kernel_rfl
theorem z_three (w : World) (os : OsState) : (kHook K ks ke).obs (fs w os) = (kHook K ks ke).val w := by kernel_rfl
theorem z_open : opening pr = plainProg pr.main.scope.names := by kernel_rfl
theorem z_fence (s : Shared) : fenceModules? pr s = some s := by kernel_rfl
theorem left : LeftO pr vw lo (fun _ => true) (kHook K ks ke).obs (kHook K ks ke).val 1000000 :=
  LeftO.of_pieces (boot_open z_open rfl z_fence) z_size r_all rfl fun w => funext fun os => looks_pair (z_one w os) (looks_pair (z_two w os) (z_three w os))
end Tp
open PySem PySem.W PyProof.Rows
set_option maxRecDepth 100000 in
set_option maxHeartbeats 0 in
theorem PySem.Challenge.cw_trueword_k16_no_payments_holds : PySem.Challenge.rw_trueword_k16_no_payments.Holds := by
  refine holds_law (by rw [PySem.W.Fast.te9446332074065402090]; kernel_rfl) fun said => ?_
  refine holds_open (q := Tp.vw) (loose := Tp.lo) (Xt := fun _ => true) (XP := fun _ _ => True) (Yf := (kHook Tp.K Tp.ks Tp.ke).obs) (Ya := (kHook Tp.K Tp.ks Tp.ke).val) (YP := (kHook Tp.K Tp.ks Tp.ke).says) (N := 1000000) Tp.left (kHook Tp.K Tp.ks Tp.ke).of (kHook Tp.K Tp.ks Tp.ke).keeps (fun _ _ => trivial) (fun _ _ _ _ _ => trivial) (by rfl) (by rfl) (by rfl) (fun _ _ => recFacts_nil rfl) (by rfl) said (by decide +kernel) ⟨rfl, rfl, rfl, rfl, rfl, by decide +kernel⟩ ?hw ?hc
  case hw => w_witness2
  k_fill
  refine L2.walk_ofK (l := PySem.Challenge.rw_trueword_k16_no_payments) (n := 63) (k := 10) (x := "script") (CX := L2.CX0) (sp := Mine.spLaw) rfl (by decide) rfl ⟨rfl, by decide, by decide⟩ (fun w h Y => PySem.W.kIn_of Y) ?F ?S ?C
  case F =>
    intro w mg fa h KX G hmg
    have n_ValueError : mg "ValueError" = none := by
      refine' PySem.W.mg_none_of KX G ?a
      (case a => k_is)
    have n_bool : mg "bool" = none := by
      refine' PySem.W.mg_none_of KX G ?a
      (case a => k_is)
    have n_enumerate : mg "enumerate" = none := by
      refine' PySem.W.mg_none_of KX G ?a
      (case a => k_is)
    have n_int : mg "int" = none := by
      refine' PySem.W.mg_none_of KX G ?a
      (case a => k_is)
    have n_isinstance : mg "isinstance" = none := by
      refine' PySem.W.mg_none_of KX G ?a
      (case a => k_is)
    have n_len : mg "len" = none := by
      refine' PySem.W.mg_none_of KX G ?a
      (case a => k_is)
    have n_list : mg "list" = none := by
      refine' PySem.W.mg_none_of KX G ?a
      (case a => k_is)
    have n_max : mg "max" = none := by
      refine' PySem.W.mg_none_of KX G ?a
      (case a => k_is)
    have n_min : mg "min" = none := by
      refine' PySem.W.mg_none_of KX G ?a
      (case a => k_is)
    have n_range : mg "range" = none := by
      refine' PySem.W.mg_none_of KX G ?a
      (case a => k_is)
    have n_reversed : mg "reversed" = none := by
      refine' PySem.W.mg_none_of KX G ?a
      (case a => k_is)
    have n_set : mg "set" = none := by
      refine' PySem.W.mg_none_of KX G ?a
      (case a => k_is)
    have n_zip : mg "zip" = none := by
      refine' PySem.W.mg_none_of KX G ?a
      (case a => k_is)
    have B : Mine.Bt mg := ⟨n_ValueError, n_bool, n_enumerate, n_int, n_isinstance, n_len, n_list, n_max, n_min, n_range, n_reversed, n_set, n_zip⟩
    have z_NoPays := L2.err_mk (name := "NoPays") KX G (by k_is) (by k_exc) (by k_is) (by k_is) (by k_is)
    have z_TrueError := L2.err_mk (name := "TrueError") KX G (by k_is) (by k_exc) (by k_is) (by k_is) (by k_is)
    have z_NoWord := PySem.W.mg_of (n := "NoWord") KX G (by k_is)
    have z_NoWeight := PySem.W.mg_of (n := "NoWeight") KX G (by k_is)
    have z_NoStand := PySem.W.mg_of (n := "NoStand") KX G (by k_is)
    have z_NoShare := PySem.W.mg_of (n := "NoShare") KX G (by k_is)
    have z_NoRule := PySem.W.mg_of (n := "NoRule") KX G (by k_is)
    have z_NoRow := PySem.W.mg_of (n := "NoRow") KX G (by k_is)
    have z_NoMenu := PySem.W.mg_of (n := "NoMenu") KX G (by k_is)
    have z_NoHouse := PySem.W.mg_of (n := "NoHouse") KX G (by k_is)
    have C := Mine.Ct.mk (mg := mg) (a := ⟨_, _, _, _, _, _, _, _, _, _⟩) (z_NoPays.1) (z_NoPays.2) (L2.kitV_mk (by k_is)) (z_TrueError.1) (z_TrueError.2) (z_NoWord) (z_NoWeight) (z_NoStand) (z_NoShare) (z_NoRule) (z_NoRow) (z_NoMenu) (z_NoHouse) (by k_is) (L2.kit_self) (by k_is) (L2.kit_mk (by decide) (by k_is) (by k_is) (by k_is)) (L2.kit_mk (by decide) (by k_is) (by k_is) (by k_is)) (L2.kit_mk (by decide) (by k_is) (by k_is) (by k_is)) (L2.kit_mk (by decide) (by k_is) (by k_is) (by k_is)) (L2.kit_mk (by decide) (by k_is) (by k_is) (by k_is)) (L2.kit_mk (by decide) (by k_is) (by k_is) (by k_is)) (L2.kit_mk (by decide) (by k_is) (by k_is) (by k_is)) (L2.kit_mk (by decide) (by k_is) (by k_is) (by k_is)) (L2.kit_mk (by decide) (by k_is) (by k_is) (by k_is))
    have d_turn : L2.DefIn (L2.KOf KX) mg "turn" Mine.s_turn ["grid", "s", "t"] := by
      dsimp only [L2.KOf]
      refine' L2.def_mk KX G ?a ?l ?c ?k (fun _ _ _ _ _ _ us hl => match us, hl with | [_, _, _], _ => rfl)
      (case a => k_is)
      (case l => k_is)
      (case c => k_is)
      (case k => k_is)
    have d_gain : L2.DefIn (L2.KOf KX) mg "gain" Mine.s_gain ["grid", "pays", "t", "s"] := by
      dsimp only [L2.KOf]
      refine' L2.def_mk KX G ?a ?l ?c ?k (fun _ _ _ _ _ _ us hl => match us, hl with | [_, _, _, _], _ => rfl)
      (case a => k_is)
      (case l => k_is)
      (case c => k_is)
      (case k => k_is)
    have d_first_gain : L2.DefIn (L2.KOf KX) mg "first_gain" Mine.s_first_gain ["grid", "pays"] := by
      dsimp only [L2.KOf]
      refine' L2.def_mk KX G ?a ?l ?c ?k (fun _ _ _ _ _ _ us hl => match us, hl with | [_, _], _ => rfl)
      (case a => k_is)
      (case l => k_is)
      (case c => k_is)
      (case k => k_is)
    have d_total_of : L2.DefIn (L2.KOf KX) mg "total_of" Mine.s_total_of ["walk"] := by
      dsimp only [L2.KOf]
      refine' L2.def_mk KX G ?a ?l ?c ?k (fun _ _ _ _ _ _ us hl => match us, hl with | [_], _ => rfl)
      (case a => k_is)
      (case l => k_is)
      (case c => k_is)
      (case k => k_is)
    have d_words_of : L2.DefIn (L2.KOf KX) mg "words_of" Mine.s_words_of ["walk"] := by
      dsimp only [L2.KOf]
      refine' L2.def_mk KX G ?a ?l ?c ?k (fun _ _ _ _ _ _ us hl => match us, hl with | [_], _ => rfl)
      (case a => k_is)
      (case l => k_is)
      (case c => k_is)
      (case k => k_is)
    have d_walks_of_one_turn : L2.DefIn (L2.KOf KX) mg "walks_of_one_turn" Mine.s_walks_of_one_turn ["grid", "s"] := by
      dsimp only [L2.KOf]
      refine' L2.def_mk KX G ?a ?l ?c ?k (fun _ _ _ _ _ _ us hl => match us, hl with | [_, _], _ => rfl)
      (case a => k_is)
      (case l => k_is)
      (case c => k_is)
      (case k => k_is)
    have d_least_to : L2.DefIn (L2.KOf KX) mg "least_to" Mine.s_least_to ["grid", "walks", "t"] := by
      dsimp only [L2.KOf]
      refine' L2.def_mk KX G ?a ?l ?c ?k (fun _ _ _ _ _ _ us hl => match us, hl with | [_, _, _], _ => rfl)
      (case a => k_is)
      (case l => k_is)
      (case c => k_is)
      (case k => k_is)
    have d_lengthened : L2.DefIn (L2.KOf KX) mg "lengthened" Mine.s_lengthened ["grid", "walks"] := by
      dsimp only [L2.KOf]
      refine' L2.def_mk KX G ?a ?l ?c ?k (fun _ _ _ _ _ _ us hl => match us, hl with | [_, _], _ => rfl)
      (case a => k_is)
      (case l => k_is)
      (case c => k_is)
      (case k => k_is)
    have d_after_a_turn : L2.DefIn (L2.KOf KX) mg "after_a_turn" Mine.s_after_a_turn ["grid", "totals", "t"] := by
      dsimp only [L2.KOf]
      refine' L2.def_mk KX G ?a ?l ?c ?k (fun _ _ _ _ _ _ us hl => match us, hl with | [_, _, _], _ => rfl)
      (case a => k_is)
      (case l => k_is)
      (case c => k_is)
      (case k => k_is)
    have d_has_honest : L2.DefIn (L2.KOf KX) mg "has_honest" Mine.s_has_honest ["grid"] := by
      dsimp only [L2.KOf]
      refine' L2.def_mk KX G ?a ?l ?c ?k (fun _ _ _ _ _ _ us hl => match us, hl with | [_], _ => rfl)
      (case a => k_is)
      (case l => k_is)
      (case c => k_is)
      (case k => k_is)
    have d_closed_below_zero : L2.DefIn (L2.KOf KX) mg "closed_below_zero" Mine.s_closed_below_zero ["rows"] := by
      dsimp only [L2.KOf]
      refine' L2.def_mk KX G ?a ?l ?c ?k (fun _ _ _ _ _ _ us hl => match us, hl with | [_], _ => rfl)
      (case a => k_is)
      (case l => k_is)
      (case c => k_is)
      (case k => k_is)
    have d_ring : L2.DefIn (L2.KOf KX) mg "ring" Mine.s_ring ["grid"] := by
      dsimp only [L2.KOf]
      refine' L2.def_mk KX G ?a ?l ?c ?k (fun _ _ _ _ _ _ us hl => match us, hl with | [_], _ => rfl)
      (case a => k_is)
      (case l => k_is)
      (case c => k_is)
      (case k => k_is)
    have d_refuse_ring : L2.DefIn (L2.KOf KX) mg "refuse_ring" Mine.s_refuse_ring ["grid"] := by
      dsimp only [L2.KOf]
      refine' L2.def_mk KX G ?a ?l ?c ?k (fun _ _ _ _ _ _ us hl => match us, hl with | [_], _ => rfl)
      (case a => k_is)
      (case l => k_is)
      (case c => k_is)
      (case k => k_is)
    have d_lesser : L2.DefIn (L2.KOf KX) mg "lesser" Mine.s_lesser ["walk", "longer"] := by
      dsimp only [L2.KOf]
      refine' L2.def_mk KX G ?a ?l ?c ?k (fun _ _ _ _ _ _ us hl => match us, hl with | [_, _], _ => rfl)
      (case a => k_is)
      (case l => k_is)
      (case c => k_is)
      (case k => k_is)
    have d_least_roads : L2.DefIn (L2.KOf KX) mg "least_roads" Mine.s_least_roads ["grid", "walks"] := by
      dsimp only [L2.KOf]
      refine' L2.def_mk KX G ?a ?l ?c ?k (fun _ _ _ _ _ _ us hl => match us, hl with | [_, _], _ => rfl)
      (case a => k_is)
      (case l => k_is)
      (case c => k_is)
      (case k => k_is)
    have d_greatest : L2.DefIn (L2.KOf KX) mg "greatest" Mine.s_greatest ["grid"] := by
      dsimp only [L2.KOf]
      refine' L2.def_mk KX G ?a ?l ?c ?k (fun _ _ _ _ _ _ us hl => match us, hl with | [_], _ => rfl)
      (case a => k_is)
      (case l => k_is)
      (case c => k_is)
      (case k => k_is)
    have d_mirrored_row : L2.DefIn (L2.KOf KX) mg "mirrored_row" Mine.s_mirrored_row ["grid", "t"] := by
      dsimp only [L2.KOf]
      refine' L2.def_mk KX G ?a ?l ?c ?k (fun _ _ _ _ _ _ us hl => match us, hl with | [_, _], _ => rfl)
      (case a => k_is)
      (case l => k_is)
      (case c => k_is)
      (case k => k_is)
    have d_mirrored : L2.DefIn (L2.KOf KX) mg "mirrored" Mine.s_mirrored ["grid"] := by
      dsimp only [L2.KOf]
      refine' L2.def_mk KX G ?a ?l ?c ?k (fun _ _ _ _ _ _ us hl => match us, hl with | [_], _ => rfl)
      (case a => k_is)
      (case l => k_is)
      (case c => k_is)
      (case k => k_is)
    have d_least : L2.DefIn (L2.KOf KX) mg "least" Mine.s_least ["grid"] := by
      dsimp only [L2.KOf]
      refine' L2.def_mk KX G ?a ?l ?c ?k (fun _ _ _ _ _ _ us hl => match us, hl with | [_], _ => rfl)
      (case a => k_is)
      (case l => k_is)
      (case c => k_is)
      (case k => k_is)
    have d_law_cell : L2.DefIn (L2.KOf KX) mg "_law_cell" Mine.s_law_cell ["script", "k"] := by
      dsimp only [L2.KOf]
      refine' L2.def_mk KX G ?a ?l ?c ?k (fun _ _ _ _ _ _ us hl => match us, hl with | [_, _], _ => rfl)
      (case a => k_is)
      (case l => k_is)
      (case c => k_is)
      (case k => k_is)
    have d_law_number : L2.DefIn (L2.KOf KX) mg "_law_number" Mine.s_law_number ["cell", "top"] := by
      dsimp only [L2.KOf]
      refine' L2.def_mk KX G ?a ?l ?c ?k (fun _ _ _ _ _ _ us hl => match us, hl with | [_, _], _ => rfl)
      (case a => k_is)
      (case l => k_is)
      (case c => k_is)
      (case k => k_is)
    have d_law_pays : L2.DefIn (L2.KOf KX) mg "_law_pays" Mine.s_law_pays ["script", "many"] := by
      dsimp only [L2.KOf]
      refine' L2.def_mk KX G ?a ?l ?c ?k (fun _ _ _ _ _ _ us hl => match us, hl with | [_, _], _ => rfl)
      (case a => k_is)
      (case l => k_is)
      (case c => k_is)
      (case k => k_is)
    have d_law_priced : L2.DefIn (L2.KOf KX) mg "_law_priced" Mine.s_law_priced ["script", "many"] := by
      dsimp only [L2.KOf]
      refine' L2.def_mk KX G ?a ?l ?c ?k (fun _ _ _ _ _ _ us hl => match us, hl with | [_, _], _ => rfl)
      (case a => k_is)
      (case l => k_is)
      (case c => k_is)
      (case k => k_is)
    have d_law_along : L2.DefIn (L2.KOf KX) mg "_law_along" Mine.s_law_along ["grid", "words"] := by
      dsimp only [L2.KOf]
      refine' L2.def_mk KX G ?a ?l ?c ?k (fun _ _ _ _ _ _ us hl => match us, hl with | [_, _], _ => rfl)
      (case a => k_is)
      (case l => k_is)
      (case c => k_is)
      (case k => k_is)
    have d_law_words : L2.DefIn (L2.KOf KX) mg "_law_words" Mine.s_law_words ["words", "many"] := by
      dsimp only [L2.KOf]
      refine' L2.def_mk KX G ?a ?l ?c ?k (fun _ _ _ _ _ _ us hl => match us, hl with | [_, _], _ => rfl)
      (case a => k_is)
      (case l => k_is)
      (case c => k_is)
      (case k => k_is)
    have d_law_ring : L2.DefIn (L2.KOf KX) mg "_law_ring" Mine.s_law_ring ["grid", "words"] := by
      dsimp only [L2.KOf]
      refine' L2.def_mk KX G ?a ?l ?c ?k (fun _ _ _ _ _ _ us hl => match us, hl with | [_, _], _ => rfl)
      (case a => k_is)
      (case l => k_is)
      (case c => k_is)
      (case k => k_is)
    have d_law_refused : L2.DefIn (L2.KOf KX) mg "_law_refused" Mine.s_law_refused ["way", "grid"] := by
      dsimp only [L2.KOf]
      refine' L2.def_mk KX G ?a ?l ?c ?k (fun _ _ _ _ _ _ us hl => match us, hl with | [_, _], _ => rfl)
      (case a => k_is)
      (case l => k_is)
      (case c => k_is)
      (case k => k_is)
    have d_law_right : L2.DefIn (L2.KOf KX) mg "_law_right" Mine.s_law_right ["grid"] := by
      dsimp only [L2.KOf]
      refine' L2.def_mk KX G ?a ?l ?c ?k (fun _ _ _ _ _ _ us hl => match us, hl with | [_], _ => rfl)
      (case a => k_is)
      (case l => k_is)
      (case c => k_is)
      (case k => k_is)
    have d_law : L2.DefIn (L2.KOf KX) mg "law" Mine.s_law ["script"] := by
      dsimp only [L2.KOf]
      refine' L2.def_mk KX G ?a ?l ?c ?k (fun _ _ _ _ _ _ us hl => match us, hl with | [_], _ => rfl)
      (case a => k_is)
      (case l => k_is)
      (case c => k_is)
      (case k => k_is)
    obtain ⟨f, fd, e1, F1, b1⟩ := d_law.ex
    have e2 := hmg.symm.trans e1
    cases e2
    refine ⟨fd, fun s u => ?_, fun base kb nb => ?_⟩
    · exact Mine.law_binds F1 s u
    · exact Mine.law_ok B C d_turn d_gain d_first_gain d_total_of d_words_of d_walks_of_one_turn d_least_to d_lengthened d_after_a_turn d_has_honest d_closed_below_zero d_ring d_refuse_ring d_lesser d_least_roads d_greatest d_mirrored_row d_mirrored d_least d_law_cell d_law_number d_law_pays d_law_priced d_law_along d_law_words d_law_ring d_law_refused d_law_right base F1
  case S => exact fun K H a ns hl hO hS => ⟨a, ns, rfl, hS, hl, fun _ => rfl⟩
  case C => exact fun _ _ _ _ z => z
#print axioms PySem.Challenge.cw_trueword_k16_no_payments_holds
